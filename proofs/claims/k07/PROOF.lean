import PyProof.Rows.All
import Wide.All
import OpenK.AllK
import Wide.FinOn
import HandS.ForMost
import HandS.Evl
import HandS.Walk
import HandS.IsInst
import HandS.Wide
import HandS.Style
import HandS.RevRange
import HandS.Replace
import HandS.RaiseMore
import HandS.StrMore
import KE.KDictList
import HandS.Exc
import HandS.ExcOwn
import HandS.ExcIs
import HandS.ExcValue
import HandS.Conv
import HandS.TryOnly
import HandS.WordsExc
import PyProof.ReprRoads
import HandS.SetBool
import HandS.SetKeys
import HandS.DictComp
import HandS.Star
import PyProof.Rows.StrMeet
import PyProof.StrBlock2
import PySem.Challenge.RW_craneyard_k07_stacks_by_deeds
set_option Elab.async false
set_option linter.all false
set_option maxRecDepth 100000
set_option maxHeartbeats 2000000
namespace Cy
open PySem L2 Evl

/-! an exception that was caught and is kept: tracked, by its class -/
def ExK (cls : Value) (d : Option Addr) (a : Addr) : HO := .ext fun h => ∃ (oe : Obj) (vs : Array Value), h.get? a = some oe ∧ Zc cls d oe ∧ oe.data = .fields vs

/-! data as trees; how a value bears them -/
inductive D where
  | non
  | bl (b : Bool)
  | int (i : Int)
  | str (s : Str)
  | lst (xs : List D)
  | tup (xs : List D)
  | dic (es : List (Key × D))
  | obj (C : Addr) (fs : List (Str × D))
  | scr (xs : List Int)
  | exc (C : Addr)
  | ptr (a : Addr)

mutual
inductive Rp (K : PySem.W.Frag) (F : Hp) : V → D → Prop
  | non : Rp K F .non .non
  | bl (b : Bool) : Rp K F (.bl b) (.bl b)
  | int (i : Int) : Rp K F (.int i) (.int i)
  | str (x : Str) : Rp K F (.str x) (.str x)
  | lst {a : Addr} {xs : List V} {ds : List D} : F a = some (.lst xs) → RpA K F xs ds → Rp K F (.ref a) (.lst ds)
  | tup {a : Addr} {xs : List V} {ds : List D} : F a = some (.tup xs) → RpA K F xs ds → Rp K F (.ref a) (.tup ds)
  | dic {a : Addr} {kvs : List (Key × V)} {es : List (Key × D)} : F a = some (.dK kvs) → kvs.map (fun p => p.1) = es.map (fun p => p.1) → RpA K F (kvs.map fun p => p.2) (es.map fun p => p.2) → Rp K F (.ref a) (.dic es)
  | obj {a C dx : Addr} {gs : List (Str × V)} {fs : List (Str × D)} : F a = some (.ins C dx gs) → gs.map (fun p => p.1) = fs.map (fun p => p.1) → RpA K F (gs.map fun p => p.2) (fs.map fun p => p.2) → Rp K F (.ref a) (.obj C fs)
  | scr {a : Addr} {ns : List Int} : SqL K F a (ns.map V.int) → Rp K F (.ref a) (.scr ns)
  | exc {a C : Addr} : F a = some (ExK (.ref C) none a) → Rp K F (.ref a) (.exc C)
  | ptr (a : Addr) : Rp K F (.ref a) (.ptr a)
inductive RpA (K : PySem.W.Frag) (F : Hp) : List V → List D → Prop
  | nil : RpA K F [] []
  | cons {v : V} {vs : List V} {d : D} {ds : List D} : Rp K F v d → RpA K F vs ds → RpA K F (v :: vs) (d :: ds)
end

section
variable {K : PySem.W.Frag} {F F' H H' : Hp}
mutual
theorem Rp.mono (e : Ex F F') : ∀ {v : V} {d : D}, Rp K F v d → Rp K F' v d
  | _, _, .non => .non
  | _, _, .bl b => .bl b
  | _, _, .int i => .int i
  | _, _, .str x => .str x
  | _, _, .lst h r => .lst (e _ _ h) (RpA.mono e r)
  | _, _, .tup h r => .tup (e _ _ h) (RpA.mono e r)
  | _, _, .dic h r1 r2 => .dic (e _ _ h) r1 (RpA.mono e r2)
  | _, _, .obj h n r => .obj (e _ _ h) n (RpA.mono e r)
  | _, _, .scr h => .scr (ex_l e h)
  | _, _, .exc h => .exc (e _ _ h)
  | _, _, .ptr a => .ptr a
theorem RpA.mono (e : Ex F F') : ∀ {vs : List V} {ds : List D}, RpA K F vs ds → RpA K F' vs ds
  | _, _, .nil => .nil
  | _, _, .cons r t => .cons (Rp.mono e r) (RpA.mono e t)
end
theorem RpA.length : ∀ {vs : List V} {ds : List D}, RpA K F vs ds → vs.length = ds.length
  | _, _, .nil => rfl
  | _, _, .cons _ t => by rw [List.length_cons, List.length_cons, RpA.length t]
theorem RpA.get : ∀ {vs : List V} {ds : List D} {i : Nat} {d : D}, RpA K F vs ds → ds[i]? = some d → ∃ v, vs[i]? = some v ∧ Rp K F v d
  | _, _, i, d, .nil, h => by simp at h
  | _, _, 0, d, .cons r _, h => by
    simp at h
    subst h
    exact ⟨_, rfl, r⟩
  | _, _, i + 1, d, .cons _ t, h => by
    obtain ⟨v, h1, h2⟩ := RpA.get (i := i) (d := d) t (by simpa using h)
    exact ⟨v, by simpa using h1, h2⟩
theorem RpA.app : ∀ {vs : List V} {ds : List D} {ws : List V} {es : List D}, RpA K F vs ds → RpA K F ws es → RpA K F (vs ++ ws) (ds ++ es)
  | _, _, _, _, .nil, s => s
  | _, _, _, _, .cons r t, s => .cons r (RpA.app t s)
theorem RpA.take : ∀ {vs : List V} {ds : List D} (n : Nat), RpA K F vs ds → RpA K F (vs.take n) (ds.take n)
  | _, _, 0, _ => .nil
  | _, _, _ + 1, .nil => .nil
  | _, _, n + 1, .cons r t => .cons r (RpA.take n t)
theorem RpA.drop : ∀ {vs : List V} {ds : List D} (n : Nat), RpA K F vs ds → RpA K F (vs.drop n) (ds.drop n)
  | _, _, 0, r => r
  | _, _, _ + 1, .nil => .nil
  | _, _, n + 1, .cons _ t => RpA.drop n t
theorem RpA.set {v : V} {d : D} (r : Rp K F v d) : ∀ {vs : List V} {ds : List D} (i : Nat), RpA K F vs ds → RpA K F (vs.set i v) (ds.set i d)
  | _, _, _, .nil => .nil
  | _, _, 0, .cons _ t => .cons r t
  | _, _, i + 1, .cons q t => .cons q (RpA.set r i t)
theorem RpA.erase : ∀ {vs : List V} {ds : List D} (i : Nat), RpA K F vs ds → RpA K F (vs.eraseIdx i) (ds.eraseIdx i)
  | _, _, _, .nil => .nil
  | _, _, 0, .cons _ t => t
  | _, _, i + 1, .cons q t => .cons q (RpA.erase i t)
theorem RpA.rev {vs : List V} {ds : List D} (h : RpA K F vs ds) : RpA K F vs.reverse ds.reverse := by
  induction vs generalizing ds with
  | nil =>
    cases h
    exact .nil
  | cons v vs ih =>
    cases h with
    | cons r t =>
      rw [List.reverse_cons, List.reverse_cons]
      exact RpA.app (ih t) (.cons r .nil)
theorem RpA.ints : ∀ {ns : List Int} {vs : List V}, RpA K F vs (ns.map D.int) → vs = ns.map V.int
  | [], _, h => by
    cases h
    rfl
  | n :: ns, _, h => by
    cases h with
    | cons r t =>
      cases r
      rw [RpA.ints t]
      rfl
theorem RpA.ofInts : ∀ ns : List Int, RpA K F (ns.map V.int) (ns.map D.int)
  | [] => .nil
  | n :: ns => .cons (.int n) (RpA.ofInts ns)
theorem RpA.bls : ∀ {ns : List Bool} {vs : List V}, RpA K F vs (ns.map D.bl) → vs = ns.map V.bl
  | [], _, h => by
    cases h
    rfl
  | n :: ns, _, h => by
    cases h with
    | cons r t =>
      cases r
      rw [RpA.bls t]
      rfl
theorem RpA.strs : ∀ {ns : List Str} {vs : List V}, RpA K F vs (ns.map D.str) → vs = ns.map V.str
  | [], _, h => by
    cases h
    rfl
  | n :: ns, _, h => by
    cases h with
    | cons r t =>
      cases r
      rw [RpA.strs t]
      rfl
end

/-! what stands in the slots -/
inductive Ow where
  | lst (l : List D)
  | ins (a C : Addr) (fs : List (Str × D))
inductive Sl where
  | no
  | dat (d : D)
  | own (w : Ow)
inductive BearO (K : PySem.W.Frag) (F : Hp) : Addr → HO → Ow → Prop
  | lst {p : Addr} {xs : List V} {l : List D} : RpA K F xs l → BearO K F p (.lst xs) (.lst l)
  | ins {a C dx : Addr} {gs : List (Str × V)} {fs : List (Str × D)} : gs.map (fun p => p.1) = fs.map (fun p => p.1) → RpA K F (gs.map fun p => p.2) (fs.map fun p => p.2) → BearO K F a (.ins C dx gs) (.ins a C fs)
theorem BearO.mono {K : PySem.W.Frag} {F F' : Hp} (e : Ex F F') {p : Addr} {o : HO} {w : Ow} (h : BearO K F p o w) : BearO K F' p o w := by
  cases h with
  | lst r => exact .lst (r.mono e)
  | ins n r => exact .ins n (r.mono e)
def datOf : Ow → D
  | .lst l => .lst l
  | .ins _ C fs => .obj C fs
theorem BearO.rp {K : PySem.W.Frag} {F : Hp} {p : Addr} {o : HO} {w : Ow} (h : BearO K F p o w) (hp : F p = some o) : Rp K F (.ref p) (datOf w) := by
  cases h with
  | lst r => exact .lst hp r
  | ins n r => exact .obj hp n r

structure En (K : PySem.W.Frag) (H0 F0 F H : Hp) (σ : L2.St) (G : List Sl) : Prop where
  dat : ∀ (i : Nat) (d : D), G[i]? = some (.dat d) → ∃ v, σ[i]? = some (some v) ∧ Rp K F v d
  own : ∀ (i : Nat) (w : Ow), G[i]? = some (.own w) → ∃ p o, σ[i]? = some (some (.ref p)) ∧ F p = none ∧ H0 p = none ∧ H p = some o ∧ BearO K F p o w
  dis : ∀ (i j : Nat) (li lj : Ow) (p : Addr), i ≠ j → G[i]? = some (.own li) → G[j]? = some (.own lj) → σ[i]? = some (some (.ref p)) → σ[j]? ≠ some (some (.ref p))
  e0 : Ex H0 H
  ef : Ex F H
  e1 : Ex F0 F
  nf : ∀ a o, F a = some o → F0 a = some o ∨ H0 a = none
  len : σ.length = G.length

/-- the new part of F' was free in H -/
def Nw (F F' H : Hp) : Prop := ∀ a o, F' a = some o → F a = some o ∨ H a = none
theorem Nw.refl (F H : Hp) : Nw F F H := fun _ _ h => .inl h

theorem ex_none {H H' : Hp} (e : Ex H H') {a : Addr} (h : H' a = none) : H a = none := fresh_back e h

section
variable {K : PySem.W.Frag} {H0 F0 F F' H H' : Hp} {σ : L2.St} {G : List Sl}
/-- a bigger footprint, a bigger heap -/
theorem En.grow (E : En K H0 F0 F H σ G) (e1 : Ex F F') (e2 : Ex H H') (e3 : Ex F' H') (n : Nw F F' H) : En K H0 F0 F' H' σ G where
  dat := fun i d h => by
    obtain ⟨v, a, b⟩ := E.dat i d h
    exact ⟨v, a, b.mono e1⟩
  own := fun i l h => by
    obtain ⟨p, xs, a, b, c, d, r⟩ := E.own i l h
    refine ⟨p, xs, a, ?_, c, e2 _ _ d, r.mono e1⟩
    cases q : F' p with
    | none => rfl
    | some o =>
      rcases n p o q with z | z
      · rw [b] at z
        cases z
      · rw [d] at z
        cases z
  dis := E.dis
  e0 := E.e0.trans e2
  ef := e3
  e1 := E.e1.trans e1
  nf := fun a o h => by
    rcases n a o h with z | z
    · exact E.nf a o z
    · exact .inr (ex_none E.e0 z)
  len := E.len
/-- a new object joins both -/
theorem nw_upd {p : Addr} {o : HO} (h : H p = none) (n : Nw F F' H) : Nw F (upd F' p o) H := fun a u q => by
  by_cases e : a = p
  · subst e
    exact .inr h
  · rw [upd_ne e] at q
    exact n a u q
theorem ex_upd_both {p : Addr} {o : HO} (e : Ex F H) : Ex (upd F p o) (upd H p o) := fun a u q => by
  by_cases z : a = p
  · subst z
    rw [upd_same] at q ⊢
    exact q
  · rw [upd_ne z] at q ⊢
    exact e a u q
theorem En.setD (E : En K H0 F0 F H σ G) {v : V} {d : D} (r : Rp K F v d) (i : Nat) : En K H0 F0 F H (σ.set i (some v)) (G.set i (.dat d)) where
  dat := fun j e h => by
    by_cases q : i = j
    · subst q
      by_cases hl : i < G.length
      · rw [List.getElem?_set_self hl] at h
        cases h
        exact ⟨v, List.getElem?_set_self (by rw [E.len]; exact hl), r⟩
      · rw [List.getElem?_eq_none (by rw [List.length_set]; omega)] at h
        cases h
    · rw [List.getElem?_set_ne q] at h ⊢
      exact E.dat j e h
  own := fun j l h => by
    by_cases q : i = j
    · subst q
      by_cases hl : i < G.length
      · rw [List.getElem?_set_self hl] at h
        cases h
      · rw [List.getElem?_eq_none (by rw [List.length_set]; omega)] at h
        cases h
    · rw [List.getElem?_set_ne q] at h ⊢
      exact E.own j l h
  dis := fun a b la lb p hab h1 h2 h3 => by
    have na : i ≠ a := fun q => by
      subst q
      by_cases hl : i < G.length
      · rw [List.getElem?_set_self hl] at h1
        cases h1
      · rw [List.getElem?_eq_none (by rw [List.length_set]; omega)] at h1
        cases h1
    have nb : i ≠ b := fun q => by
      subst q
      by_cases hl : i < G.length
      · rw [List.getElem?_set_self hl] at h2
        cases h2
      · rw [List.getElem?_eq_none (by rw [List.length_set]; omega)] at h2
        cases h2
    rw [List.getElem?_set_ne na] at h1 h3
    rw [List.getElem?_set_ne nb] at h2 ⊢
    exact E.dis a b la lb p hab h1 h2 h3
  e0 := E.e0
  ef := E.ef
  e1 := E.e1
  nf := E.nf
  len := by rw [List.length_set, List.length_set, E.len]
theorem En.setO (E : En K H0 F0 F H σ G) {p : Addr} {o : HO} {l : Ow} (hF : F p = none) (h0 : H0 p = none) (hH : H p = some o) (r : BearO K F p o l) (i : Nat)
    (hn : ∀ (j : Nat) (lj : Ow), G[j]? = some (.own lj) → i ≠ j → σ[j]? ≠ some (some (.ref p))) : En K H0 F0 F H (σ.set i (some (.ref p))) (G.set i (.own l)) where
  dat := fun j e h => by
    by_cases q : i = j
    · subst q
      by_cases hl : i < G.length
      · rw [List.getElem?_set_self hl] at h
        cases h
      · rw [List.getElem?_eq_none (by rw [List.length_set]; omega)] at h
        cases h
    · rw [List.getElem?_set_ne q] at h ⊢
      exact E.dat j e h
  own := fun j l' h => by
    by_cases q : i = j
    · subst q
      by_cases hl : i < G.length
      · rw [List.getElem?_set_self hl] at h
        cases h
        exact ⟨p, o, List.getElem?_set_self (by rw [E.len]; exact hl), hF, h0, hH, r⟩
      · rw [List.getElem?_eq_none (by rw [List.length_set]; omega)] at h
        cases h
    · rw [List.getElem?_set_ne q] at h ⊢
      exact E.own j l' h
  dis := fun a b la lb p' hab h1 h2 h3 => by
    by_cases qa : i = a
    · subst qa
      rw [List.getElem?_set_ne hab] at h2 ⊢
      have hl : i < σ.length := by
        have := (List.getElem?_eq_some_iff.mp h3).1
        rw [List.length_set] at this
        exact this
      rw [List.getElem?_set_self hl] at h3
      cases h3
      exact hn b lb h2 hab
    · rw [List.getElem?_set_ne qa] at h1 h3
      by_cases qb : i = b
      · subst qb
        intro z
        have hl : i < σ.length := by
          have := (List.getElem?_eq_some_iff.mp z).1
          rw [List.length_set] at this
          exact this
        rw [List.getElem?_set_self hl] at z
        cases z
        exact hn a la h1 qa h3
      · rw [List.getElem?_set_ne qb] at h2 ⊢
        exact E.dis a b la lb p' hab h1 h2 h3
  e0 := E.e0
  ef := E.ef
  e1 := E.e1
  nf := E.nf
  len := by rw [List.length_set, List.length_set, E.len]
/-- the owned list of slot i becomes xs' -/
theorem En.mut (E : En K H0 F0 F H σ G) {i : Nat} {l : Ow} (h : G[i]? = some (.own l)) {p : Addr} (hp : σ[i]? = some (some (.ref p))) {o' : HO} {l' : Ow} (r : BearO K F p o' l') :
    En K H0 F0 F (upd H p o') σ (G.set i (.own l')) := by
  obtain ⟨p', xs, a, b, c, d, _⟩ := E.own i l h
  have ep : p' = p := by
    rw [hp] at a
    cases a
    rfl
  subst ep
  have hl : i < G.length := (List.getElem?_eq_some_iff.mp h).1
  refine ⟨fun j e q => ?_, fun j m q => ?_, fun x y lx ly p'' hxy h1 h2 h3 => ?_, fun z o q => ?_, fun z o q => ?_, E.e1, E.nf, by rw [List.length_set, E.len]⟩
  · by_cases hij : i = j
    · subst hij
      rw [List.getElem?_set_self hl] at q
      cases q
    · rw [List.getElem?_set_ne hij] at q
      exact E.dat j e q
  · by_cases hij : i = j
    · subst hij
      rw [List.getElem?_set_self hl] at q
      cases q
      exact ⟨p', o', hp, b, c, upd_same, r⟩
    · rw [List.getElem?_set_ne hij] at q
      obtain ⟨p2, xs2, a2, b2, c2, d2, r2⟩ := E.own j m q
      have hne : p2 ≠ p' := fun z => by
        subst z
        exact E.dis i j l m p2 hij h q hp a2
      exact ⟨p2, xs2, a2, b2, c2, by rw [upd_ne hne]; exact d2, r2⟩
  · have w : ∀ (x : Nat) (lx : Ow), (G.set i (.own l'))[x]? = some (.own lx) → ∃ m, G[x]? = some (.own m) := fun x lx q => by
      by_cases hix : i = x
      · subst hix
        exact ⟨l, h⟩
      · rw [List.getElem?_set_ne hix] at q
        exact ⟨lx, q⟩
    obtain ⟨m1, q1⟩ := w x lx h1
    obtain ⟨m2, q2⟩ := w y ly h2
    exact E.dis x y m1 m2 p'' hxy q1 q2 h3
  · have hne : z ≠ p' := fun y => by
      subst y
      rw [c] at q
      cases q
    rw [upd_ne hne]
    exact E.e0 z o q
  · have hne : z ≠ p' := fun y => by
      subst y
      rw [b] at q
      cases q
    rw [upd_ne hne]
    exact E.ef z o q
/-- an owned list is shared from here on -/
theorem En.freeze (E : En K H0 F0 F H σ G) {i : Nat} {l : Ow} (h : G[i]? = some (.own l)) : ∃ F', Ex F F' ∧ En K H0 F0 F' H σ (G.set i (.dat (datOf l))) := by
  obtain ⟨p, xs, a, b, c, d, r⟩ := E.own i l h
  have hl : i < G.length := (List.getElem?_eq_some_iff.mp h).1
  have ef : Ex F (upd F p xs) := Ex.new b
  refine ⟨upd F p xs, ef, fun j e q => ?_, fun j m q => ?_, fun x y lx ly p'' hxy h1 h2 h3 => ?_, E.e0, fun z o q => ?_, E.e1.trans ef, fun z o q => ?_, by rw [List.length_set, E.len]⟩
  · by_cases hij : i = j
    · subst hij
      rw [List.getElem?_set_self hl] at q
      cases q
      exact ⟨_, a, (r.mono ef).rp upd_same⟩
    · rw [List.getElem?_set_ne hij] at q
      obtain ⟨v, q1, q2⟩ := E.dat j e q
      exact ⟨v, q1, q2.mono ef⟩
  · by_cases hij : i = j
    · subst hij
      rw [List.getElem?_set_self hl] at q
      cases q
    · rw [List.getElem?_set_ne hij] at q
      obtain ⟨p2, xs2, a2, b2, c2, d2, r2⟩ := E.own j m q
      have hne : p2 ≠ p := fun z => by
        subst z
        exact E.dis i j l m p2 hij h q a a2
      exact ⟨p2, xs2, a2, by rw [upd_ne hne]; exact b2, c2, d2, r2.mono ef⟩
  · have nx : i ≠ x := fun z => by
      subst z
      rw [List.getElem?_set_self hl] at h1
      cases h1
    have ny : i ≠ y := fun z => by
      subst z
      rw [List.getElem?_set_self hl] at h2
      cases h2
    rw [List.getElem?_set_ne nx] at h1
    rw [List.getElem?_set_ne ny] at h2
    exact E.dis x y lx ly p'' hxy h1 h2 h3
  · by_cases hz : z = p
    · subst hz
      rw [upd_same] at q
      cases q
      exact d
    · rw [upd_ne hz] at q
      exact E.ef z o q
  · by_cases hz : z = p
    · subst hz
      exact .inr c
    · rw [upd_ne hz] at q
      exact E.nf z o q
end
end Cy

set_option Elab.async false
set_option linter.all false
set_option maxRecDepth 100000
set_option maxHeartbeats 2000000
namespace Cy
open PySem L2 Evl

/-! expressions over the data in the slots -/
structure EvD (K : PySem.W.Frag) (te : TE) (G : List Sl) (d : D) : Prop where
  run : ∀ {H0 F0 F H : Hp} {σ : L2.St}, En K H0 F0 F H σ G → ∀ Q : VK, (∀ v F' H', En K H0 F0 F' H' σ G → Ex F F' → Ex H H' → Nw F F' H → Rp K F' v d → Q v H') → te σ H Q
instance {K : PySem.W.Frag} {te : TE} {G : List Sl} {d : D} : CoeFun (EvD K te G d) fun _ => ∀ {H0 F0 F H : Hp} {σ : L2.St}, En K H0 F0 F H σ G → ∀ Q : VK, (∀ v F' H', En K H0 F0 F' H' σ G → Ex F F' → Ex H H' → Nw F F' H → Rp K F' v d → Q v H') → te σ H Q := ⟨fun h => h.run⟩
/-- a new list of its own -/
structure EvO (K : PySem.W.Frag) (te : TE) (G : List Sl) (l : List D) : Prop where
  run : ∀ {H0 F0 F H : Hp} {σ : L2.St}, En K H0 F0 F H σ G → ∀ Q : VK, (∀ p xs F' H', En K H0 F0 F' H' σ G → Ex F F' → Ex H H' → Nw F F' H → H p = none → F' p = none → H' p = some (.lst xs) → RpA K F' xs l → Q (.ref p) H') → te σ H Q
instance {K : PySem.W.Frag} {te : TE} {G : List Sl} {l : List D} : CoeFun (EvO K te G l) fun _ => ∀ {H0 F0 F H : Hp} {σ : L2.St}, En K H0 F0 F H σ G → ∀ Q : VK, (∀ p xs F' H', En K H0 F0 F' H' σ G → Ex F F' → Ex H H' → Nw F F' H → H p = none → F' p = none → H' p = some (.lst xs) → RpA K F' xs l → Q (.ref p) H') → te σ H Q := ⟨fun h => h.run⟩
structure EvTt (K : PySem.W.Frag) (tt : TT) (G : List Sl) (b : Bool) : Prop where
  run : ∀ {H0 F0 F H : Hp} {σ : L2.St}, En K H0 F0 F H σ G → ∀ Q : Bool → Hp → Prop, (∀ F' H', En K H0 F0 F' H' σ G → Ex F F' → Ex H H' → Nw F F' H → Q b H') → tt σ H Q
instance {K : PySem.W.Frag} {tt : TT} {G : List Sl} {b : Bool} : CoeFun (EvTt K tt G b) fun _ => ∀ {H0 F0 F H : Hp} {σ : L2.St}, En K H0 F0 F H σ G → ∀ Q : Bool → Hp → Prop, (∀ F' H', En K H0 F0 F' H' σ G → Ex F F' → Ex H H' → Nw F F' H → Q b H') → tt σ H Q := ⟨fun h => h.run⟩
structure EvS (K : PySem.W.Frag) (ta : TA) (G : List Sl) (ds : List D) : Prop where
  run : ∀ {H0 F0 F H : Hp} {σ : L2.St}, En K H0 F0 F H σ G → ∀ Q : List V → Hp → Prop, (∀ vs F' H', En K H0 F0 F' H' σ G → Ex F F' → Ex H H' → Nw F F' H → RpA K F' vs ds → Q vs H') → ta σ H Q
instance {K : PySem.W.Frag} {ta : TA} {G : List Sl} {ds : List D} : CoeFun (EvS K ta G ds) fun _ => ∀ {H0 F0 F H : Hp} {σ : L2.St}, En K H0 F0 F H σ G → ∀ Q : List V → Hp → Prop, (∀ vs F' H', En K H0 F0 F' H' σ G → Ex F F' → Ex H H' → Nw F F' H → RpA K F' vs ds → Q vs H') → ta σ H Q := ⟨fun h => h.run⟩
structure EvP (K : PySem.W.Frag) (to : TO) (G : List Sl) (o : Option Int) : Prop where
  run : ∀ {H0 F0 F H : Hp} {σ : L2.St}, En K H0 F0 F H σ G → ∀ Q : Option Int → Hp → Prop, (∀ F' H', En K H0 F0 F' H' σ G → Ex F F' → Ex H H' → Nw F F' H → Q o H') → to σ H Q
instance {K : PySem.W.Frag} {to : TO} {G : List Sl} {o : Option Int} : CoeFun (EvP K to G o) fun _ => ∀ {H0 F0 F H : Hp} {σ : L2.St}, En K H0 F0 F H σ G → ∀ Q : Option Int → Hp → Prop, (∀ F' H', En K H0 F0 F' H' σ G → Ex F F' → Ex H H' → Nw F F' H → Q o H') → to σ H Q := ⟨fun h => h.run⟩
/-- operations on values -/
structure Op2 (K : PySem.W.Frag) (r : R2) (a b c : D) : Prop where
  run : ∀ {F H : Hp} {x y : V}, Ex F H → Rp K F x a → Rp K F y b → ∀ Q : VK, (∀ v F' H', Ex F F' → Ex F' H' → Ex H H' → Nw F F' H → Rp K F' v c → Q v H') → r x y H Q
instance {K : PySem.W.Frag} {r : R2} {a b c : D} : CoeFun (Op2 K r a b c) fun _ => ∀ {F H : Hp} {x y : V}, Ex F H → Rp K F x a → Rp K F y b → ∀ Q : VK, (∀ v F' H', Ex F F' → Ex F' H' → Ex H H' → Nw F F' H → Rp K F' v c → Q v H') → r x y H Q := ⟨fun h => h.run⟩
structure Op2O (K : PySem.W.Frag) (r : R2) (a b : D) (l : List D) : Prop where
  run : ∀ {F H : Hp} {x y : V}, Ex F H → Rp K F x a → Rp K F y b → ∀ Q : VK, (∀ p xs H', Ex H H' → H p = none → H' p = some (.lst xs) → RpA K F xs l → Q (.ref p) H') → r x y H Q
instance {K : PySem.W.Frag} {r : R2} {a b : D} {l : List D} : CoeFun (Op2O K r a b l) fun _ => ∀ {F H : Hp} {x y : V}, Ex F H → Rp K F x a → Rp K F y b → ∀ Q : VK, (∀ p xs H', Ex H H' → H p = none → H' p = some (.lst xs) → RpA K F xs l → Q (.ref p) H') → r x y H Q := ⟨fun h => h.run⟩
structure Op1 (K : PySem.W.Frag) (r : V → Hp → VK → Prop) (a c : D) : Prop where
  run : ∀ {F H : Hp} {x : V}, Ex F H → Rp K F x a → ∀ Q : VK, (∀ v F' H', Ex F F' → Ex F' H' → Ex H H' → Nw F F' H → Rp K F' v c → Q v H') → r x H Q
instance {K : PySem.W.Frag} {r : V → Hp → VK → Prop} {a c : D} : CoeFun (Op1 K r a c) fun _ => ∀ {F H : Hp} {x : V}, Ex F H → Rp K F x a → ∀ Q : VK, (∀ v F' H', Ex F F' → Ex F' H' → Ex H H' → Nw F F' H → Rp K F' v c → Q v H') → r x H Q := ⟨fun h => h.run⟩
structure OpN (K : PySem.W.Frag) (r : List V → Hp → VK → Prop) (ds : List D) (c : D) : Prop where
  run : ∀ {F H : Hp} {vs : List V}, Ex F H → RpA K F vs ds → ∀ Q : VK, (∀ v F' H', Ex F F' → Ex F' H' → Ex H H' → Nw F F' H → Rp K F' v c → Q v H') → r vs H Q
instance {K : PySem.W.Frag} {r : List V → Hp → VK → Prop} {ds : List D} {c : D} : CoeFun (OpN K r ds c) fun _ => ∀ {F H : Hp} {vs : List V}, Ex F H → RpA K F vs ds → ∀ Q : VK, (∀ v F' H', Ex F F' → Ex F' H' → Ex H H' → Nw F F' H → Rp K F' v c → Q v H') → r vs H Q := ⟨fun h => h.run⟩
structure OpNO (K : PySem.W.Frag) (r : List V → Hp → VK → Prop) (ds : List D) (l : List D) : Prop where
  run : ∀ {F H : Hp} {vs : List V}, Ex F H → RpA K F vs ds → ∀ Q : VK, (∀ p xs H', Ex H H' → H p = none → H' p = some (.lst xs) → RpA K F xs l → Q (.ref p) H') → r vs H Q
instance {K : PySem.W.Frag} {r : List V → Hp → VK → Prop} {ds : List D} {l : List D} : CoeFun (OpNO K r ds l) fun _ => ∀ {F H : Hp} {vs : List V}, Ex F H → RpA K F vs ds → ∀ Q : VK, (∀ p xs H', Ex H H' → H p = none → H' p = some (.lst xs) → RpA K F xs l → Q (.ref p) H') → r vs H Q := ⟨fun h => h.run⟩

section
variable {K : PySem.W.Frag} {G : List Sl} {ta tb te tx : TE} {t u : TT} {a b c d : D} {r : R2}
theorem Nw.trans {F F1 F2 H H1 : Hp} (a : Nw F F1 H) (b : Nw F1 F2 H1) (e : Ex H H1) : Nw F F2 H := fun x o h => by
  rcases b x o h with z | z
  · exact a x o z
  · exact .inr (ex_none e z)
theorem e_var {i : Nat} (h : G[i]? = some (.dat d)) : EvD K (tVar i) G d := .mk fun {H0 F0 F H σ} E Q q => by
  obtain ⟨v, h1, h2⟩ := E.dat i d h
  exact ⟨v, h1, q v F H E (Ex.refl F) (Ex.refl H) (Nw.refl F H) h2⟩
theorem e_none : EvD K (tC .non) G .non := .mk fun {H0 F0 F H σ} E Q q => q _ F H E (Ex.refl F) (Ex.refl H) (Nw.refl F H) .non
theorem e_int {i : Int} : EvD K (tC (.int i)) G (.int i) := .mk fun {H0 F0 F H σ} E Q q => q _ F H E (Ex.refl F) (Ex.refl H) (Nw.refl F H) (.int i)
theorem e_bl {i : Bool} : EvD K (tC (.bl i)) G (.bl i) := .mk fun {H0 F0 F H σ} E Q q => q _ F H E (Ex.refl F) (Ex.refl H) (Nw.refl F H) (.bl i)
theorem e_str {i : Str} : EvD K (tC (.str i)) G (.str i) := .mk fun {H0 F0 F H σ} E Q q => q _ F H E (Ex.refl F) (Ex.refl H) (Nw.refl F H) (.str i)
theorem e_is (h : EvD K te G a) (e : a = b) : EvD K te G b := e ▸ h
theorem t_is {x y : Bool} (h : EvTt K t G x) (e : x = y) : EvTt K t G y := e ▸ h
theorem e_op (h1 : EvD K ta G a) (h2 : EvD K tb G b) (h3 : Op2 K r a b c) : EvD K (tOp r ta tb) G c := .mk fun {H0 F0 F H σ} E Q q =>
  h1 E _ fun v F1 H1 E1 f1 g1 n1 r1 => h2 E1 _ fun w F2 H2 E2 f2 g2 n2 r2 => h3 E2.ef (r1.mono f2) r2 Q fun z F3 H3 f3 k3 g3 n3 r3 =>
    q z F3 H3 (E2.grow f3 g3 k3 n3) ((f1.trans f2).trans f3) ((g1.trans g2).trans g3) ((n1.trans n2 g1).trans n3 (g1.trans g2)) r3
theorem o_op {l : List D} (h1 : EvD K ta G a) (h2 : EvD K tb G b) (h3 : Op2O K r a b l) : EvO K (tOp r ta tb) G l := .mk fun {H0 F0 F H σ} E Q q =>
  h1 E _ fun v F1 H1 E1 f1 g1 n1 r1 => h2 E1 _ fun w F2 H2 E2 f2 g2 n2 r2 => h3 E2.ef (r1.mono f2) r2 Q fun p xs H3 g3 hp hp3 r3 =>
    q p xs F2 H3 (E2.grow (Ex.refl _) g3 (E2.ef.trans g3) (Nw.refl _ _)) (f1.trans f2) ((g1.trans g2).trans g3) (n1.trans n2 g1) (ex_none (g1.trans g2) hp) (ex_none E2.ef hp) hp3 r3
/-- a new list, shared -/
theorem e_share {l : List D} (h : EvO K te G l) : EvD K te G (.lst l) := .mk fun {H0 F0 F H σ} E Q q => h E Q fun p xs F1 H1 E1 f1 g1 n1 hp hf h1 r1 => by
  have ef : Ex F1 (upd F1 p (.lst xs)) := Ex.new hf
  have n2 : Nw F (upd F1 p (.lst xs)) H := nw_upd hp n1
  refine q (.ref p) (upd F1 p (.lst xs)) H1 (E.grow (f1.trans ef) g1 (fun z o y => ?_) n2) (f1.trans ef) g1 n2 (.lst upd_same (r1.mono ef))
  by_cases hz : z = p
  · subst hz
    rw [upd_same] at y
    cases y
    exact h1
  · rw [upd_ne hz] at y
    exact E1.ef z o y
theorem e_un {r : V → Hp → VK → Prop} (h1 : EvD K ta G a) (h3 : Op1 K r a c) : EvD K (tUn r ta) G c := .mk fun {H0 F0 F H σ} E Q q =>
  h1 E _ fun v F1 H1 E1 f1 g1 n1 r1 => h3 E1.ef r1 Q fun z F3 H3 f3 k3 g3 n3 r3 => q z F3 H3 (E1.grow f3 g3 k3 n3) (f1.trans f3) (g1.trans g3) (n1.trans n3 g1) r3
theorem s_nil : EvS K tNil G [] := .mk fun {H0 F0 F H σ} E Q q => q [] F H E (Ex.refl F) (Ex.refl H) (Nw.refl F H) .nil
theorem s_cons {tr : TA} {ds : List D} (h : EvD K ta G a) (hr : EvS K tr G ds) : EvS K (tCons ta tr) G (a :: ds) := .mk fun {H0 F0 F H σ} E Q q =>
  h E _ fun v F1 H1 E1 f1 g1 n1 r1 => hr E1 _ fun vs F2 H2 E2 f2 g2 n2 r2 => q (v :: vs) F2 H2 E2 (f1.trans f2) (g1.trans g2) (n1.trans n2 g1) (.cons (r1.mono f2) r2)
theorem e_tup {ta : TA} {ds : List D} (h : EvS K ta G ds) (hl : ds.length ≤ 100000) : EvD K (tTup ta) G (.tup ds) := .mk fun {H0 F0 F H σ} E Q q =>
  h E _ fun vs F1 H1 E1 f1 g1 n1 r1 => ⟨sz_of (by rw [r1.length]; exact hl), fun p hp => by
    have ef : Ex F1 (upd F1 p (.tup vs)) := Ex.new (ex_none E1.ef hp)
    have n2 : Nw F1 (upd F1 p (.tup vs)) H1 := nw_upd hp (Nw.refl _ _)
    exact q _ _ _ (E1.grow ef (Ex.new hp) (ex_upd_both E1.ef) n2) (f1.trans ef) (g1.trans (Ex.new hp)) (n1.trans n2 g1) (.tup upd_same (r1.mono ef))⟩
theorem o_lst {ta : TA} {ds : List D} (h : EvS K ta G ds) (hl : ds.length ≤ 100000) : EvO K (tLst ta) G ds := .mk fun {H0 F0 F H σ} E Q q =>
  h E _ fun vs F1 H1 E1 f1 g1 n1 r1 => ⟨sz_of (by rw [r1.length]; exact hl), fun p hp =>
    q p vs F1 _ (E1.grow (Ex.refl _) (Ex.new hp) (E1.ef.trans (Ex.new hp)) (Nw.refl _ _)) f1 (g1.trans (Ex.new hp)) n1 (ex_none g1 hp) (ex_none E1.ef hp) upd_same r1⟩
theorem e_cb {r : List V → Hp → VK → Prop} {ta : TA} {ds : List D} (h : EvS K ta G ds) (hr : OpN K r ds c) : EvD K (tCB r ta) G c := .mk fun {H0 F0 F H σ} E Q q =>
  h E _ fun vs F1 H1 E1 f1 g1 n1 r1 => hr E1.ef r1 Q fun z F3 H3 f3 k3 g3 n3 r3 => q z F3 H3 (E1.grow f3 g3 k3 n3) (f1.trans f3) (g1.trans g3) (n1.trans n3 g1) r3
theorem o_cb {r : List V → Hp → VK → Prop} {ta : TA} {ds l : List D} (h : EvS K ta G ds) (hr : OpNO K r ds l) : EvO K (tCB r ta) G l := .mk fun {H0 F0 F H σ} E Q q =>
  h E _ fun vs F1 H1 E1 f1 g1 n1 r1 => hr E1.ef r1 Q fun p xs H3 g3 hp hp3 r3 => q p xs F1 H3 (E1.grow (Ex.refl _) g3 (E1.ef.trans g3) (Nw.refl _ _)) f1 (g1.trans g3) n1 (ex_none g1 hp) (ex_none E1.ef hp) hp3 r3
/-! tests -/
theorem t_test {x : Bool} (h : EvD K te G (.bl x)) : EvTt K (tTest te) G x := .mk fun {H0 F0 F H σ} E Q q => h E _ fun v F1 H1 E1 f1 g1 n1 r1 => by
  cases r1
  exact ⟨x, rfl, q F1 H1 E1 f1 g1 n1⟩
theorem t_B {x : Bool} (h : EvD K te G (.bl x)) : EvTt K (tB te) G x := .mk fun {H0 F0 F H σ} E Q q => h E _ fun v F1 H1 E1 f1 g1 n1 r1 => by
  cases r1
  exact ⟨x, rfl, q F1 H1 E1 f1 g1 n1⟩
theorem t_and {x y : Bool} (h1 : EvTt K t G x) (h2 : x = true → EvTt K u G y) : EvTt K (tAnd t u) G (x && y) := .mk fun {H0 F0 F H σ} E Q q => h1 E _ fun F1 H1 E1 f1 g1 n1 => by
  cases x with
  | true =>
    show u σ H1 Q
    exact h2 rfl E1 Q fun F2 H2 E2 f2 g2 n2 => q F2 H2 E2 (f1.trans f2) (g1.trans g2) (n1.trans n2 g1)
  | false =>
    show Q false H1
    exact q F1 H1 E1 f1 g1 n1
theorem t_or {x y : Bool} (h1 : EvTt K t G x) (h2 : x = false → EvTt K u G y) : EvTt K (tOr t u) G (x || y) := .mk fun {H0 F0 F H σ} E Q q => h1 E _ fun F1 H1 E1 f1 g1 n1 => by
  cases x with
  | false =>
    show u σ H1 Q
    exact h2 rfl E1 Q fun F2 H2 E2 f2 g2 n2 => q F2 H2 E2 (f1.trans f2) (g1.trans g2) (n1.trans n2 g1)
  | true =>
    show Q true H1
    exact q F1 H1 E1 f1 g1 n1
theorem t_not {x : Bool} (h1 : EvTt K t G x) : EvTt K (tNot t) G (!x) := .mk fun {H0 F0 F H σ} E Q q => h1 E _ fun F1 H1 E1 f1 g1 n1 => q F1 H1 E1 f1 g1 n1
theorem t_yes : EvTt K tYes G true := .mk fun {H0 F0 F H σ} E Q q => q F H E (Ex.refl F) (Ex.refl H) (Nw.refl F H)
theorem e_andV {x y : Bool} (h1 : EvD K ta G (.bl x)) (h2 : x = true → EvD K tb G (.bl y)) : EvD K (tAndV ta tb) G (.bl (x && y)) := .mk fun {H0 F0 F H σ} E Q q => h1 E _ fun v F1 H1 E1 f1 g1 n1 r1 => by
  cases r1
  refine ⟨x, rfl, ?_⟩
  cases x with
  | true =>
    show tb σ H1 Q
    exact h2 rfl E1 Q fun w F2 H2 E2 f2 g2 n2 r2 => q w F2 H2 E2 (f1.trans f2) (g1.trans g2) (n1.trans n2 g1) r2
  | false =>
    show Q (.bl false) H1
    exact q _ F1 H1 E1 f1 g1 n1 (.bl _)
theorem e_orV {x y : Bool} (h1 : EvD K ta G (.bl x)) (h2 : x = false → EvD K tb G (.bl y)) : EvD K (tOrV ta tb) G (.bl (x || y)) := .mk fun {H0 F0 F H σ} E Q q => h1 E _ fun v F1 H1 E1 f1 g1 n1 r1 => by
  cases r1
  refine ⟨x, rfl, ?_⟩
  cases x with
  | false =>
    show tb σ H1 Q
    exact h2 rfl E1 Q fun w F2 H2 E2 f2 g2 n2 r2 => q w F2 H2 E2 (f1.trans f2) (g1.trans g2) (n1.trans n2 g1) r2
  | true =>
    show Q (.bl true) H1
    exact q _ F1 H1 E1 f1 g1 n1 (.bl _)
theorem e_notV {x : Bool} (h1 : EvD K ta G (.bl x)) : EvD K (tNotV ta) G (.bl (!x)) := .mk fun {H0 F0 F H σ} E Q q => h1 E _ fun v F1 H1 E1 f1 g1 n1 r1 => by
  cases r1
  exact ⟨x, rfl, q _ F1 H1 E1 f1 g1 n1 (.bl _)⟩
theorem e_if {x : Bool} (h : EvTt K t G x) (h1 : x = true → EvD K ta G d) (h2 : x = false → EvD K tb G d) : EvD K (tIf t ta tb) G d := .mk fun {H0 F0 F H σ} E Q q => h E _ fun F1 H1 E1 f1 g1 n1 => by
  cases x with
  | true =>
    show ta σ H1 Q
    exact h1 rfl E1 Q fun w F2 H2 E2 f2 g2 n2 r2 => q w F2 H2 E2 (f1.trans f2) (g1.trans g2) (n1.trans n2 g1) r2
  | false =>
    show tb σ H1 Q
    exact h2 rfl E1 Q fun w F2 H2 E2 f2 g2 n2 r2 => q w F2 H2 E2 (f1.trans f2) (g1.trans g2) (n1.trans n2 g1) r2
theorem e_ite {p : Prop} [Decidable p] {x : Bool} (h : EvTt K t G x) (hx : x = decide p) (h1 : p → EvD K ta G a) (h2 : ¬ p → EvD K tb G b) : EvD K (tIf t ta tb) G (if p then a else b) := by
  subst hx
  refine e_if h (fun q => ?_) (fun q => ?_)
  · rw [if_pos (of_decide_eq_true q)]
    exact h1 (of_decide_eq_true q)
  · rw [if_neg (of_decide_eq_false q)]
    exact h2 (of_decide_eq_false q)
/-- a chain of two comparisons -/
theorem e_chain {r r' : R2} {tc : TE} {x y : Bool} (h1 : EvD K ta G a) (h2 : EvD K tb G b) (h3 : Op2 K r a b (.bl x)) (h4 : x = true → EvD K tc G c) (h5 : x = true → Op2 K r' b c (.bl y)) : EvD K (tChain r r' ta tb tc) G (.bl (x && y)) := .mk fun {H0 F0 F H σ} E Q q =>
  h1 E _ fun v F1 H1 E1 f1 g1 n1 r1 => h2 E1 _ fun w F2 H2 E2 f2 g2 n2 r2 => h3 E2.ef (r1.mono f2) r2 _ fun z F3 H3 f3 k3 g3 n3 r3 => by
    cases r3
    refine ⟨x, rfl, ?_⟩
    have E3 := E2.grow f3 g3 k3 n3
    have N3 := ((n1.trans n2 g1).trans n3 (g1.trans g2))
    cases x with
    | true =>
      show tc σ H3 fun w' H4 => r' w w' H4 Q
      exact h4 rfl E3 _ fun w4 F4 H4 E4 f4 g4 n4 r4 => h5 rfl E4.ef (r2.mono (f3.trans f4)) r4 Q fun z5 F5 H5 f5 k5 g5 n5 r5 =>
        q z5 F5 H5 (E4.grow f5 g5 k5 n5) ((((f1.trans f2).trans f3).trans f4).trans f5) ((((g1.trans g2).trans g3).trans g4).trans g5) ((N3.trans n4 ((g1.trans g2).trans g3)).trans n5 (((g1.trans g2).trans g3).trans g4)) r5
    | false =>
      show Q (.bl false) H3
      exact q _ F3 H3 E3 ((f1.trans f2).trans f3) ((g1.trans g2).trans g3) N3 (.bl _)
theorem p_none : EvP K tNoPart G none := .mk fun {H0 F0 F H σ} E Q q => q F H E (Ex.refl F) (Ex.refl H) (Nw.refl F H)
theorem p_some {i : Int} (h : EvD K te G (.int i)) : EvP K (tPart te) G (some i) := .mk fun {H0 F0 F H σ} E Q q => h E _ fun v F1 H1 E1 f1 g1 n1 r1 => by
  cases r1
  exact ⟨i, rfl, q F1 H1 E1 f1 g1 n1⟩
/-- what is read of an owned list for a moment -/
theorem e_peek {i : Nat} {l : Ow} (h : G[i]? = some (.own l)) (hv : EvD K te (G.set i (.dat (datOf l))) d) (hd : ∀ {F F' : Hp} {v : V}, Rp K F v d → Rp K F' v d) : EvD K te G d := .mk fun {H0 F0 F H σ} E Q q => by
  obtain ⟨F1, f1, E1⟩ := E.freeze h
  refine hv E1 Q fun v F2 H2 E2 f2 g2 n2 r2 => q v F H2 ?_ (Ex.refl F) g2 (Nw.refl F H) (hd r2)
  exact E.grow (Ex.refl F) g2 (E.ef.trans g2) (Nw.refl F H)
theorem t_peek {i : Nat} {l : Ow} {x : Bool} (h : G[i]? = some (.own l)) (hv : EvTt K t (G.set i (.dat (datOf l))) x) : EvTt K t G x := .mk fun {H0 F0 F H σ} E Q q => by
  obtain ⟨F1, f1, E1⟩ := E.freeze h
  refine hv E1 Q fun F2 H2 E2 f2 g2 n2 => q F H2 ?_ (Ex.refl F) g2 (Nw.refl F H)
  exact E.grow (Ex.refl F) g2 (E.ef.trans g2) (Nw.refl F H)
end
theorem fix_int {K : PySem.W.Frag} {i : Int} {F F' : Hp} {v : V} (h : Rp K F v (.int i)) : Rp K F' v (.int i) := by
  cases h
  exact .int i
theorem fix_bl {K : PySem.W.Frag} {i : Bool} {F F' : Hp} {v : V} (h : Rp K F v (.bl i)) : Rp K F' v (.bl i) := by
  cases h
  exact .bl i
theorem fix_str {K : PySem.W.Frag} {i : Str} {F F' : Hp} {v : V} (h : Rp K F v (.str i)) : Rp K F' v (.str i) := by
  cases h
  exact .str i
theorem fix_non {K : PySem.W.Frag} {F F' : Hp} {v : V} (h : Rp K F v .non) : Rp K F' v .non := by
  cases h
  exact .non

/-! statements -/
inductive Out where
  | nx (G : List Sl)
  | rt (d : D)
  | ro (l : List D)
  | ro2 (l m : List D)
  | ex (C : Addr) (X : XK)
  | bk (G : List Sl)
  | ct (G : List Sl)
/-- what a return leaves -/
structure Ro (H0 F0 F' H' : Hp) : Prop where
  e0 : Ex H0 H'
  ef : Ex F' H'
  e1 : Ex F0 F'
  nf : ∀ a o, F' a = some o → F0 a = some o ∨ H0 a = none
theorem En.ro {K : PySem.W.Frag} {H0 F0 F H : Hp} {σ : L2.St} {G : List Sl} (E : En K H0 F0 F H σ G) : Ro H0 F0 F H := ⟨E.e0, E.ef, E.e1, E.nf⟩
def Post (K : PySem.W.Frag) (H0 F0 F : Hp) (o : Out) (E : Ends) : Prop := match o with
  | .nx G => ∀ σ F' H', En K H0 F0 F' H' σ G → Ex F F' → E.nx σ H'
  | .bk G => ∀ σ F' H', En K H0 F0 F' H' σ G → Ex F F' → E.bk σ H'
  | .ct G => ∀ σ F' H', En K H0 F0 F' H' σ G → Ex F F' → E.ct σ H'
  | .rt d => ∀ v F' H', Ro H0 F0 F' H' → Rp K F' v d → E.rt v H'
  | .ro l => ∀ p xs F' H', Ro H0 F0 F' H' → H0 p = none → F' p = none → H' p = some (.lst xs) → RpA K F' xs l → E.rt (.ref p) H'
  | .ro2 l m => ∀ t p xs q ys F' H', Ro H0 F0 F' H' → H' t = some (.tup [.ref p, .ref q]) → p ≠ q → H0 p = none → F' p = none → H' p = some (.lst xs) → RpA K F' xs l → H0 q = none → F' q = none → H' q = some (.lst ys) → RpA K F' ys m → E.rt (.ref t) H'
  | .ex C X => ∀ F' H', Ro H0 F0 F' H' → X (.ref C) none H'
structure StD (K : PySem.W.Frag) (t : TS) (G : List Sl) (o : Out) : Prop where
  run : ∀ {H0 F0 F H : Hp} {σ : L2.St} {E : Ends}, En K H0 F0 F H σ G → Post K H0 F0 F o E → t E σ H
instance {K : PySem.W.Frag} {t : TS} {G : List Sl} {o : Out} : CoeFun (StD K t G o) fun _ => ∀ {H0 F0 F H : Hp} {σ : L2.St} {E : Ends}, En K H0 F0 F H σ G → Post K H0 F0 F o E → t E σ H := ⟨fun h => h.run⟩
/-- assigning to a target -/
structure TgD (K : PySem.W.Frag) (g : TG) (G : List Sl) (d : D) (G' : List Sl) : Prop where
  run : ∀ {H0 F0 F H : Hp} {σ : L2.St} {v : V}, En K H0 F0 F H σ G → Rp K F v d → ∀ Q : L2.St → Hp → Prop, (∀ σ', En K H0 F0 F H σ' G' → Q σ' H) → g v σ H Q
instance {K : PySem.W.Frag} {g : TG} {G : List Sl} {d : D} {G' : List Sl} : CoeFun (TgD K g G d G') fun _ => ∀ {H0 F0 F H : Hp} {σ : L2.St} {v : V}, En K H0 F0 F H σ G → Rp K F v d → ∀ Q : L2.St → Hp → Prop, (∀ σ', En K H0 F0 F H σ' G' → Q σ' H) → g v σ H Q := ⟨fun h => h.run⟩
structure TgsD (K : PySem.W.Frag) (g : TGs) (G : List Sl) (ds : List D) (G' : List Sl) : Prop where
  run : ∀ {H0 F0 F H : Hp} {σ : L2.St} {vs : List V}, En K H0 F0 F H σ G → RpA K F vs ds → ∀ Q : L2.St → Hp → Prop, (∀ σ', En K H0 F0 F H σ' G' → Q σ' H) → g vs σ H Q
instance {K : PySem.W.Frag} {g : TGs} {G : List Sl} {ds : List D} {G' : List Sl} : CoeFun (TgsD K g G ds G') fun _ => ∀ {H0 F0 F H : Hp} {σ : L2.St} {vs : List V}, En K H0 F0 F H σ G → RpA K F vs ds → ∀ Q : L2.St → Hp → Prop, (∀ σ', En K H0 F0 F H σ' G' → Q σ' H) → g vs σ H Q := ⟨fun h => h.run⟩
section
variable {K : PySem.W.Frag} {G G1 G2 : List Sl} {ta tb te tx : TE} {t u : TT} {tu tw tz : TS} {a b c d : D} {o : Out} {g : TG} {gs : TGs}
theorem Post.weak {H0 F0 F F1 : Hp} {E : Ends} (h : Post K H0 F0 F o E) (f : Ex F F1) : Post K H0 F0 F1 o E := by
  cases o with
  | nx G => exact fun σ F' H' e x => h σ F' H' e (f.trans x)
  | bk G => exact fun σ F' H' e x => h σ F' H' e (f.trans x)
  | ct G => exact fun σ F' H' e x => h σ F' H' e (f.trans x)
  | rt d => exact h
  | ro l => exact h
  | ro2 l m => exact h
  | ex C X => exact h
theorem g_name {i : Nat} : TgD K (gName i) G d (G.set i (.dat d)) := .mk fun {H0 F0 F H σ v} E r Q q => q _ (E.setD r i)
theorem gs_nil : TgsD K gNil G [] G := .mk fun {H0 F0 F H σ vs} E r Q q => by
  cases r
  exact ⟨rfl, q σ E⟩
theorem gs_cons {ds : List D} (h1 : TgD K g G d G1) (h2 : TgsD K gs G1 ds G2) : TgsD K (gCons g gs) G (d :: ds) G2 := .mk fun {H0 F0 F H σ vs} E r Q q => by
  cases r with
  | cons r1 r2 => exact ⟨_, _, rfl, h1 E r1 _ fun σ1 E1 => h2 E1 r2 Q q⟩
theorem g_tup {ds : List D} {n : Nat} (h : TgsD K gs G ds G1) (hn : ds.length = n) : TgD K (gTup K n gs) G (.tup ds) G1 := .mk fun {H0 F0 F H σ v} E r Q q => by
  cases r with
  | tup ha rs => exact ⟨_, _, rfl, Or.inl (Or.inl (E.ef _ _ ha)), by rw [rs.length]; exact hn, h E rs Q q⟩
theorem st_asg (h : EvD K te G d) (hg : TgD K g G d G1) : StD K (tAsg te g) G (.nx G1) := .mk fun {H0 F0 F H σ E} En p => h En _ fun v F1 H1 E1 f1 g1 n1 r1 => hg E1 r1 _ fun σ2 E2 => p σ2 F1 H1 E2 f1
theorem st_asgO {i : Nat} {l : List D} (h : EvO K te G l) : StD K (tAsg te (gName i)) G (.nx (G.set i (.own (.lst l)))) := .mk fun {H0 F0 F H σ E} En p => h En _ fun q xs F1 H1 E1 f1 g1 n1 hq hf h1 r1 =>
  p _ F1 H1 (E1.setO hf (ex_none En.e0 hq) h1 (.lst r1) i fun j lj hj _ hs => by
    obtain ⟨p2, xs2, a2, b2, c2, d2, r2⟩ := En.own j lj hj
    rw [a2] at hs
    cases hs
    rw [hq] at d2
    cases d2) f1
theorem st_seq (h1 : StD K tu G (.nx G1)) (h2 : StD K tw G1 o) : StD K (tSeq tu tw) G o := .mk fun {H0 F0 F H σ E} En p => h1.run (E := { E with nx := tw E }) En fun σ1 F1 H1 E1 f1 => h2 E1 (p.weak f1)
theorem st_stop (h1 : StD K tu G o) (ho : ∀ G, o ≠ .nx G) : StD K (tSeq tu tw) G o := .mk fun {H0 F0 F H σ E} En p => h1.run (E := { E with nx := tw E }) En (by
  cases o with
  | nx G => exact absurd rfl (ho G)
  | bk G => exact p
  | ct G => exact p
  | rt d => exact p
  | ro l => exact p
  | ro2 l m => exact p
  | ex C X => exact p)
theorem st_next : StD K tNext G (.nx G) := .mk fun {H0 F0 F H σ E} En p => p σ F H En (Ex.refl F)
theorem st_ret (h : EvD K te G d) : StD K (tRet te) G (.rt d) := .mk fun {H0 F0 F H σ E} En p => h En _ fun v F1 H1 E1 f1 g1 n1 r1 => p v F1 H1 E1.ro r1
theorem st_retO {l : List D} (h : EvO K te G l) : StD K (tRet te) G (.ro l) := .mk fun {H0 F0 F H σ E} En p => h En _ fun q xs F1 H1 E1 f1 g1 n1 hq hf h1 r1 => p q xs F1 H1 E1.ro (ex_none En.e0 hq) hf h1 r1
theorem st_retV {i : Nat} {l : List D} (h : G[i]? = some (.own (.lst l))) : StD K (tRet (tVar i)) G (.ro l) := .mk fun {H0 F0 F H σ E} En p => by
  obtain ⟨q, o, a1, b1, c1, d1, r1⟩ := En.own i _ h
  cases r1 with
  | lst r1 => exact ⟨_, a1, p q _ F H En.ro c1 b1 d1 r1⟩
theorem st_brk : StD K tBreak G (.bk G) := .mk fun {H0 F0 F H σ E} En p => p σ F H En (Ex.refl F)
theorem st_cont : StD K tCont G (.ct G) := .mk fun {H0 F0 F H σ E} En p => p σ F H En (Ex.refl F)
theorem st_if {x : Bool} (h : EvTt K t G x) (h1 : x = true → StD K tu G o) (h2 : x = false → StD K tw G o) : StD K (tIfS t tu tw) G o := .mk fun {H0 F0 F H σ E} En p => h En _ fun F1 H1 E1 f1 g1 n1 => by
  cases x with
  | true =>
    show tu E σ H1
    exact h1 rfl E1 (p.weak f1)
  | false =>
    show tw E σ H1
    exact h2 rfl E1 (p.weak f1)
theorem st_drop (h : EvD K te G d) : StD K (tDrop te) G (.nx G) := .mk fun {H0 F0 F H σ E} En p => h En _ fun v F1 H1 E1 f1 g1 n1 r1 => p σ F1 H1 E1 f1
theorem st_freeze {i : Nat} {l : Ow} (h : G[i]? = some (.own l)) (hs : StD K tu (G.set i (.dat (datOf l))) o) : StD K tu G o := .mk fun {H0 F0 F H σ E} En p => by
  obtain ⟨F1, f1, E1⟩ := En.freeze h
  exact hs E1 (p.weak f1)
/-- forgetting a slot -/
theorem st_is {o' : Out} (h : StD K tu G o) (e : o = o') : StD K tu G o' := e ▸ h
theorem e_own {i : Nat} {l : List D} (h : G[i]? = some (.own (.lst l))) {H0 F0 F H : Hp} {σ : L2.St} (E : En K H0 F0 F H σ G) {Q : VK} (q : ∀ p xs, σ[i]? = some (some (.ref p)) → H p = some (.lst xs) → F p = none → RpA K F xs l → Q (.ref p) H) : tVar i σ H Q := by
  obtain ⟨p, o, a1, b1, c1, d1, r1⟩ := E.own i _ h
  cases r1 with
  | lst r1 => exact ⟨_, a1, q p _ a1 d1 b1 r1⟩
/-- xs.append(e) -/
theorem st_app {i : Nat} {l : List D} (h : G[i]? = some (.own (.lst l))) (he : EvD K te G d) (hz : l.length < 100000) : StD K (tDrop (tBM K "list" rAppend (tVar i) (tCons te tNil))) G (.nx (G.set i (.own (.lst (l ++ [d]))))) := .mk fun {H0 F0 F H σ E} En p =>
  by
  unfold tDrop tBM
  exact e_own h En fun q xs hq hH hF hr => ⟨Or.inl ⟨rfl, xs, sq_of hH⟩, he En _ fun v F1 H1 E1 f1 g1 n1 r1 => by
    refine ⟨q, xs, v, rfl, rfl, g1 _ _ hH, sz_lt (by rw [hr.length]; exact hz), ?_⟩
    exact p σ F1 _ (E1.mut h hq (.lst ((hr.mono f1).app (.cons r1 .nil)))) f1⟩
/-- xs[j] = e -/
theorem st_setI {i : Nat} {l : List D} {j : Nat} (h : G[i]? = some (.own (.lst l))) (he : EvD K te G d) (hi : EvD K tx G (.int (j : Int))) (hj : j < l.length) : StD K (tAsg te (gSub (tVar i) tx rSetL)) G (.nx (G.set i (.own (.lst (l.set j d))))) := .mk fun {H0 F0 F H σ E} En p =>
  he En _ fun v F1 H1 E1 f1 g1 n1 r1 => e_own h E1 fun q xs hq hH hF hr => hi E1 _ fun w F2 H2 E2 f2 g2 n2 r2 => by
    cases r2
    refine ⟨q, xs, (j : Int), j, rfl, rfl, g2 _ _ hH, ixN_nat (by rw [hr.length]; exact hj), ?_⟩
    exact p σ F2 _ (E2.mut h hq (.lst ((hr.mono f2).set (r1.mono f2) j))) (f1.trans f2)
end
end Cy

set_option Elab.async false
set_option linter.all false
set_option maxRecDepth 100000
set_option maxHeartbeats 2000000
namespace Cy
open PySem L2 Evl

/-! promises over data -/
/-- hands back a value that bears d -/
def spD (K : PySem.W.Frag) (R : List D → D → Prop) : Sp := fun vs H Q _ => ∃ F ds d, Ex F H ∧ RpA K F vs ds ∧ R ds d ∧ ∀ v F' H', Ro H F F' H' → Rp K F' v d → Q v H'
/-- hands back a new list -/
def spO (K : PySem.W.Frag) (R : List D → List D → Prop) : Sp := fun vs H Q _ => ∃ F ds l, Ex F H ∧ RpA K F vs ds ∧ R ds l ∧ ∀ p xs F' H', Ro H F F' H' → H p = none → F' p = none → H' p = some (.lst xs) → RpA K F' xs l → Q (.ref p) H'
section
variable {K : PySem.W.Frag} {G G1 G2 : List Sl} {ta : TA} {te tx : TE} {t u tt : TT} {tu tw tz : TS} {d : D} {ds l : List D} {o : Out} {g : TG}
theorem Ro.nw {H0 F0 F' H' : Hp} (r : Ro H0 F0 F' H') : Nw F0 F' H0 := r.nf
theorem e_call {R : List D → D → Prop} {E : XK} (h : EvS K ta G ds) (hR : R ds d) : EvD K (tCall (spD K R) [] E ta) G d := .mk fun {H0 F0 F H σ} En Q q =>
  h En _ fun vs F1 H1 E1 f1 g1 n1 r1 => by
    refine ⟨F1, ds, d, E1.ef, by rw [List.append_nil]; exact r1, hR, fun v F2 H2 ro r2 => ?_⟩
    exact q v F2 H2 (E1.grow ro.e1 ro.e0 ro.ef ro.nf) (f1.trans ro.e1) (g1.trans ro.e0) (n1.trans ro.nf g1) r2
theorem o_call {R : List D → List D → Prop} {E : XK} (h : EvS K ta G ds) (hR : R ds l) : EvO K (tCall (spO K R) [] E ta) G l := .mk fun {H0 F0 F H σ} En Q q =>
  h En _ fun vs F1 H1 E1 f1 g1 n1 r1 => by
    refine ⟨F1, ds, l, E1.ef, by rw [List.append_nil]; exact r1, hR, fun p xs F2 H2 ro hp hf hh r2 => ?_⟩
    exact q p xs F2 H2 (E1.grow ro.e1 ro.e0 ro.ef ro.nf) (f1.trans ro.e1) (g1.trans ro.e0) (n1.trans ro.nf g1) (ex_none g1 hp) hf hh r2
/-- the slots at a def's entry -/
def args (n : Nat) (ds : List D) : List Sl := ds.map Sl.dat ++ List.replicate (n - ds.length) Sl.no
theorem start_en {N : List Str} {vs : List V} {F H : Hp} (e : Ex F H) (r : RpA K F vs ds) (hn : ds.length ≤ N.length) : En K H F F H (start N vs) (args N.length ds) := by
  have hs : start N vs = vs.map some ++ List.replicate (N.length - vs.length) none := by
    first | rfl | (unfold start; rfl)
  have hl := r.length
  rw [hs, hl]
  unfold args
  refine ⟨fun i d h => ?_, fun i l h => ?_, fun i j li lj p hij h1 h2 h3 => ?_, Ex.refl H, e, Ex.refl F, fun a o h => .inl h, ?_⟩
  · by_cases hi : i < ds.length
    · rw [List.getElem?_append_left (by rw [List.length_map]; exact hi), List.getElem?_map] at h
      cases q : ds[i]? with
      | none =>
        rw [q] at h
        cases h
      | some e' =>
        rw [q] at h
        cases h
        obtain ⟨v, h1, h2⟩ := r.get q
        refine ⟨v, ?_, h2⟩
        rw [List.getElem?_append_left (by rw [List.length_map, hl]; exact hi), List.getElem?_map, h1]
        rfl
    · rw [List.getElem?_append_right (by rw [List.length_map]; omega), List.length_map] at h
      have := List.mem_of_getElem? h
      rw [List.mem_replicate] at this
      cases this.2
  · by_cases hi : i < ds.length
    · rw [List.getElem?_append_left (by rw [List.length_map]; exact hi), List.getElem?_map] at h
      cases q : ds[i]? with
      | none =>
        rw [q] at h
        cases h
      | some e' =>
        rw [q] at h
        cases h
    · rw [List.getElem?_append_right (by rw [List.length_map]; omega), List.length_map] at h
      have := List.mem_of_getElem? h
      rw [List.mem_replicate] at this
      cases this.2
  · by_cases hi : i < ds.length
    · rw [List.getElem?_append_left (by rw [List.length_map]; exact hi), List.getElem?_map] at h1
      cases q : ds[i]? with
      | none =>
        rw [q] at h1
        cases h1
      | some e' =>
        rw [q] at h1
        cases h1
    · rw [List.getElem?_append_right (by rw [List.length_map]; omega), List.length_map] at h1
      have := List.mem_of_getElem? h1
      rw [List.mem_replicate] at this
      cases this.2
  · rw [List.length_append, List.length_append, List.length_map, List.length_map, List.length_replicate, List.length_replicate, hl]
/-- a def's body, read from its arguments' data -/
theorem body_D {N : List Str} {R : List D → D → Prop} {vs : List V} {H : Hp} {Q : VK} {E : XK} {t : TS} (h : spD K R vs H Q E) (hn : ∀ ds d, R ds d → ds.length ≤ N.length)
    (hb : ∀ ds d, R ds d → StD K t (args N.length ds) (.rt d)) : t { nx := fun _ H' => Q .non H', rt := Q } (start N vs) H := by
  obtain ⟨F, ds, d, e, r, hR, q⟩ := h
  exact hb ds d hR (start_en e r (hn ds d hR)) fun v F' H' ro r' => q v F' H' ro r'
/-- .. that ends without a return -/
theorem body_N {N : List Str} {R : List D → D → Prop} {vs : List V} {H : Hp} {Q : VK} {E : XK} {t : TS} (h : spD K R vs H Q E) (hn : ∀ ds d, R ds d → ds.length ≤ N.length)
    (hb : ∀ ds d, R ds d → d = .non ∧ ∃ G, StD K t (args N.length ds) (.nx G)) : t { nx := fun _ H' => Q .non H', rt := Q } (start N vs) H := by
  obtain ⟨F, ds, d, e, r, hR, q⟩ := h
  obtain ⟨hd, G, hs⟩ := hb ds d hR
  subst hd
  exact hs (start_en e r (hn ds _ hR)) fun σ F' H' E' f' => q .non F' H' E'.ro .non
theorem body_O {N : List Str} {R : List D → List D → Prop} {vs : List V} {H : Hp} {Q : VK} {E : XK} {t : TS} (h : spO K R vs H Q E) (hn : ∀ ds d, R ds d → ds.length ≤ N.length)
    (hb : ∀ ds d, R ds d → StD K t (args N.length ds) (.ro d)) : t { nx := fun _ H' => Q .non H', rt := Q } (start N vs) H := by
  obtain ⟨F, ds, d, e, r, hR, q⟩ := h
  exact hb ds d hR (start_en e r (hn ds d hR)) fun p xs F' H' ro h0 hf hh r' => q p xs F' H' ro h0 hf hh r'

/-! walks -/
/-- the walk J gives these, one by one -/
structure WkD (K : PySem.W.Frag) (F : Hp) (J : It) (items : List D) : Prop where
  ex : ∃ Gp Y, Walk J items.length Gp Y ∧ (∀ H, Ex F H → Gp H) ∧ ∀ i H x H' F1, Ex F F1 → Ex F1 H → Y i H x H' → ∃ F2 d, Ex F1 F2 ∧ Ex H H' ∧ Ex F2 H' ∧ Nw F1 F2 H ∧ items[i]? = some d ∧ Rp K F2 x d
structure ItD (K : PySem.W.Frag) (wi : TI) (G : List Sl) (items : List D) : Prop where
  run : ∀ {H0 F0 F H : Hp} {σ : L2.St}, En K H0 F0 F H σ G → ∀ R : It → Hp → Prop, (∀ J F' H', En K H0 F0 F' H' σ G → Ex F F' → Ex H H' → Nw F F' H → WkD K F' J items → R J H') → wi σ H R
instance {K : PySem.W.Frag} {wi : TI} {G : List Sl} {items : List D} : CoeFun (ItD K wi G items) fun _ => ∀ {H0 F0 F H : Hp} {σ : L2.St}, En K H0 F0 F H σ G → ∀ R : It → Hp → Prop, (∀ J F' H', En K H0 F0 F' H' σ G → Ex F F' → Ex H H' → Nw F F' H → WkD K F' J items → R J H') → wi σ H R := ⟨fun h => h.run⟩
theorem wk_same {F : Hp} {J : It} {items : List D} {xs : List V} {Gp : Hp → Prop} {Y : Nat → Hp → V → Hp → Prop} (w : Walk J items.length Gp Y) (hg : ∀ H, Ex F H → Gp H) (r : RpA K F xs items) (hy : ∀ i H x H', Y i H x H' → H' = H ∧ xs[i]? = some x) : WkD K F J items := by
  refine ⟨Gp, Y, w, hg, fun i H x H' F1 e1 e2 y => ?_⟩
  obtain ⟨rfl, hx⟩ := hy i H x H' y
  have hi : i < items.length := by
    rw [← r.length]
    exact (List.getElem?_eq_some_iff.mp hx).1
  obtain ⟨v, h1, h2⟩ := r.get (List.getElem?_eq_getElem hi)
  rw [hx] at h1
  cases h1
  exact ⟨F1, items[i], Ex.refl _, Ex.refl _, e2, Nw.refl _ _, List.getElem?_eq_getElem hi, h2.mono e1⟩
theorem it_list (h : EvD K te G (.lst l)) : ItD K (iList K te) G l := .mk fun {H0 F0 F H σ} En R q => h En _ fun v F1 H1 E1 f1 g1 n1 r1 => by
  cases r1 with
  | lst ha rs =>
    refine ⟨_, rfl, ⟨_, sq_of (E1.ef _ _ ha)⟩, q _ F1 H1 E1 f1 g1 n1 ?_⟩
    refine wk_same (xs := _) (by rw [← rs.length]; exact walk_list) (fun H e => sq_of (e _ _ ha)) rs fun i H x H' y => y
theorem it_scr {ns : List Int} (h : EvD K te G (.scr ns)) : ItD K (iList K te) G (ns.map D.int) := .mk fun {H0 F0 F H σ} En R q => h En _ fun v F1 H1 E1 f1 g1 n1 r1 => by
  cases r1 with
  | scr hs =>
    refine ⟨_, rfl, ⟨_, ex_l E1.ef hs⟩, q _ F1 H1 E1 f1 g1 n1 ?_⟩
    have hl : (ns.map D.int).length = (ns.map V.int).length := by rw [List.length_map, List.length_map]
    exact wk_same (xs := ns.map V.int) (by rw [hl]; exact walk_list) (fun H e => ex_l e hs) (RpA.ofInts ns) fun i H x H' y => y
theorem it_tup (h : EvD K te G (.tup l)) : ItD K (iTup K te) G l := .mk fun {H0 F0 F H σ} En R q => h En _ fun v F1 H1 E1 f1 g1 n1 r1 => by
  cases r1 with
  | tup ha rs =>
    refine ⟨_, rfl, ⟨_, st_of (E1.ef _ _ ha)⟩, q _ F1 H1 E1 f1 g1 n1 ?_⟩
    refine wk_same (xs := _) (by rw [← rs.length]; exact walk_tup) (fun H e => st_of (e _ _ ha)) rs fun i H x H' y => y
theorem wk_fn {F : Hp} {J : It} {n : Nat} {f : Nat → Int} {Y : Nat → Hp → V → Hp → Prop} (w : Walk J n (fun _ => True) Y) (hy : ∀ i H x H', Y i H x H' → i < n ∧ H' = H ∧ x = .int (f i)) : WkD K F J ((List.range n).map fun i => D.int (f i)) := by
  have hl : ((List.range n).map fun i => D.int (f i)).length = n := by rw [List.length_map, List.length_range]
  refine ⟨_, Y, by rw [hl]; exact w, fun _ _ => trivial, fun i H x H' F1 e1 e2 y => ?_⟩
  obtain ⟨hi, rfl, rfl⟩ := hy i H x H' y
  refine ⟨F1, .int (f i), Ex.refl _, Ex.refl _, e2, Nw.refl _ _, ?_, .int _⟩
  rw [List.getElem?_map, List.getElem?_range hi]
  rfl
/-- ints lo, lo + 1, .. -/
def rngD (lo : Int) (n : Nat) : List D := (List.range n).map fun (i : Nat) => D.int (lo + (i : Int))
theorem walk_rng {lo : Int} {n : Nat} {F : Hp} : WkD K F (Itr lo n) (rngD lo n) :=
  wk_fn (f := fun (i : Nat) => lo + (i : Int)) (w := (⟨fun _ _ hi _ => hi, fun _ _ => Nat.le_refl _, fun i H x H' hi _ y => ⟨hi, y.1, y.2⟩⟩ : Walk (Itr lo n) n (fun _ => True) fun i H x H' => i < n ∧ H' = H ∧ x = .int (lo + (i : Int)))) fun i H x H' y => y
theorem it_rng1 {n : Int} (h : EvS K ta G [.int n]) (hn : -(2 ^ 62) ≤ n ∧ n < 2 ^ 62) : ItD K (iRng1 ta) G (rngD 0 n.toNat) := .mk fun {H0 F0 F H σ} En R q => h En _ fun vs F1 H1 E1 f1 g1 n1 r1 => by
  cases r1 with
  | cons a b =>
    cases b
    cases a
    exact ⟨n, rfl, hn.1, hn.2, q _ F1 H1 E1 f1 g1 n1 walk_rng⟩
theorem it_rng2 {lo n : Int} (h : EvS K ta G [.int lo, .int n]) (hn : -(2 ^ 62) ≤ lo ∧ lo < 2 ^ 62 ∧ -(2 ^ 62) ≤ n ∧ n < 2 ^ 62) : ItD K (iRng2 ta) G (rngD lo (n - lo).toNat) := .mk fun {H0 F0 F H σ} En R q => h En _ fun vs F1 H1 E1 f1 g1 n1 r1 => by
  cases r1 with
  | cons a b =>
    cases b with
    | cons b c =>
      cases c
      cases a
      cases b
      exact ⟨lo, n, rfl, hn, q _ F1 H1 E1 f1 g1 n1 walk_rng⟩
/-- the signs of a text -/
def signs (x : Str) : List D := x.cps.toList.map fun c => D.str ⟨#[c]⟩
theorem it_str {x : Str} (h : EvD K te G (.str x)) : ItD K (iStr te) G (signs x) := .mk fun {H0 F0 F H σ} En R q => h En _ fun v F1 H1 E1 f1 g1 n1 r1 => by
  cases r1
  refine ⟨x, rfl, q _ F1 H1 E1 f1 g1 n1 ?_⟩
  have hl : (signs x).length = x.cps.size := by
    unfold signs
    rw [List.length_map]
    rfl
  refine ⟨_, _, by rw [hl]; exact walk_str, fun _ _ => trivial, fun i H x' H' F1 e1 e2 y => ?_⟩
  obtain ⟨rfl, c, hc, rfl⟩ := y
  refine ⟨F1, _, Ex.refl _, Ex.refl _, e2, Nw.refl _ _, ?_, .str _⟩
  unfold signs
  rw [List.getElem?_map, Array.getElem?_toList, hc]
  rfl
/-- pairs of a place and an item -/
def enumD (l : List D) : List D := (List.range l.length).map fun (i : Nat) => D.tup [.int (i : Int), l.getD i .non]
theorem it_enum (h : EvS K ta G [.lst l]) : ItD K (iEnum K ta) G (enumD l) := .mk fun {H0 F0 F H σ} En R q => h En _ fun vs F1 H1 E1 f1 g1 n1 r1 => by
  cases r1 with
  | cons a b =>
    cases b
    cases a with
    | lst ha rs =>
      refine ⟨_, _, rfl, sq_of (E1.ef _ _ ha), q _ F1 H1 E1 f1 g1 n1 ?_⟩
      have hl : (enumD l).length = l.length := by
        unfold enumD
        rw [List.length_map, List.length_range]
      refine ⟨_, _, by rw [hl, ← rs.length]; exact walk_enum, fun H e => sq_of (e _ _ ha), fun i H x' H' F1 e1 e2 y => ?_⟩
      obtain ⟨T, x, y, rfl, hT, rfl, hx, hy⟩ := y
      cases hx
      dsimp only at hy
      have hi : i < l.length := by
        rw [← rs.length]
        exact (List.getElem?_eq_some_iff.mp hy).1
      obtain ⟨v, h1, h2⟩ := rs.get (List.getElem?_eq_getElem hi)
      rw [hy] at h1
      cases h1
      have ef : Ex F1 (upd F1 T (.tup [.int (i : Int), y])) := Ex.new (ex_none e2 hT)
      refine ⟨upd F1 T (.tup [.int (i : Int), y]), .tup [.int (i : Int), l[i]], ef, Ex.new hT, ex_upd_both e2, nw_upd hT (Nw.refl _ _), ?_, .tup upd_same (.cons (.int _) (.cons (h2.mono (e1.trans ef)) .nil))⟩
      unfold enumD
      rw [List.getElem?_map, List.getElem?_range hi]
      show some (D.tup [.int (i : Int), l.getD i .non]) = _
      rw [List.getD_eq_getElem?_getD, List.getElem?_eq_getElem hi]
      rfl
/-- pairs of two lists -/
def zipD (l m : List D) : List D := (List.range (min l.length m.length)).map fun i => D.tup [l.getD i .non, m.getD i .non]
theorem it_zip {m : List D} (h : EvS K ta G [.lst l, .lst m]) : ItD K (iZip K ta) G (zipD l m) := .mk fun {H0 F0 F H σ} En R q => h En _ fun vs F1 H1 E1 f1 g1 n1 r1 => by
  cases r1 with
  | cons a b =>
    cases b with
    | cons b c =>
      cases c
      cases a with
      | lst ha rs =>
        cases b with
        | lst hb rt =>
          refine ⟨_, _, _, _, rfl, sq_of (E1.ef _ _ ha), sq_of (E1.ef _ _ hb), q _ F1 H1 E1 f1 g1 n1 ?_⟩
          have hl : (zipD l m).length = min l.length m.length := by
            unfold zipD
            rw [List.length_map, List.length_range]
          refine ⟨_, _, walk_zip (by rw [hl, rs.length, rt.length]), fun H e => ⟨sq_of (e _ _ ha), sq_of (e _ _ hb)⟩, fun i H x' H' F1 e1 e2 y => ?_⟩
          obtain ⟨T, x, y, rfl, hT, rfl, hx, hy⟩ := y
          dsimp only at hx hy
          have hi : i < l.length := by
            rw [← rs.length]
            exact (List.getElem?_eq_some_iff.mp hx).1
          have hj : i < m.length := by
            rw [← rt.length]
            exact (List.getElem?_eq_some_iff.mp hy).1
          obtain ⟨v, h1, h2⟩ := rs.get (List.getElem?_eq_getElem hi)
          rw [hx] at h1
          cases h1
          obtain ⟨w, h3, h4⟩ := rt.get (List.getElem?_eq_getElem hj)
          rw [hy] at h3
          cases h3
          have ef : Ex F1 (upd F1 T (.tup [x, y])) := Ex.new (ex_none e2 hT)
          refine ⟨upd F1 T (.tup [x, y]), .tup [l[i], m[i]], ef, Ex.new hT, ex_upd_both e2, nw_upd hT (Nw.refl _ _), ?_, .tup upd_same (.cons (h2.mono (e1.trans ef)) (.cons (h4.mono (e1.trans ef)) .nil))⟩
          unfold zipD
          rw [List.getElem?_map, List.getElem?_range (by omega)]
          show some (D.tup [l.getD i .non, m.getD i .non]) = _
          rw [List.getD_eq_getElem?_getD, List.getElem?_eq_getElem hi, List.getD_eq_getElem?_getD, List.getElem?_eq_getElem hj]
          rfl
/-- ints from above: lo + n - 1, .., lo -/
def downD (lo : Int) (n : Nat) : List D := (List.range n).map fun (i : Nat) => D.int (lo + (n : Int) - 1 - (i : Int))
/-- a range as a value -/
structure RgD (K : PySem.W.Frag) (tr : L2.St → Hp → (Int → Int → Hp → Prop) → Prop) (G : List Sl) (a b : Int) : Prop where
  run : ∀ {H0 F0 F H : Hp} {σ : L2.St}, En K H0 F0 F H σ G → ∀ Q : Int → Int → Hp → Prop, (∀ F' H', En K H0 F0 F' H' σ G → Ex F F' → Ex H H' → Nw F F' H → Q a b H') → tr σ H Q
instance {K : PySem.W.Frag} {tr : L2.St → Hp → (Int → Int → Hp → Prop) → Prop} {G : List Sl} {a b : Int} : CoeFun (RgD K tr G a b) fun _ => ∀ {H0 F0 F H : Hp} {σ : L2.St}, En K H0 F0 F H σ G → ∀ Q : Int → Int → Hp → Prop, (∀ F' H', En K H0 F0 F' H' σ G → Ex F F' → Ex H H' → Nw F F' H → Q a b H') → tr σ H Q := ⟨fun h => h.run⟩
theorem it_revR {tr : L2.St → Hp → (Int → Int → Hp → Prop) → Prop} {a b : Int} (h : RgD K tr G a b) (hn : -(2 ^ 62) ≤ a ∧ a < 2 ^ 62 ∧ -(2 ^ 62) ≤ b ∧ b < 2 ^ 62) : ItD K (iRevR tr) G (downD a (b - a).toNat) := .mk fun {H0 F0 F H σ} En R q =>
  h En _ fun F1 H1 E1 f1 g1 n1 => ⟨hn.1, hn.2.1, hn.2.2.1, hn.2.2.2, q _ F1 H1 E1 f1 g1 n1 (by
    refine wk_fn (f := fun (i : Nat) => a + (((b - a).toNat : Nat) : Int) - 1 - (i : Int)) (w := (⟨fun _ _ hi _ => hi, fun _ _ => Nat.le_refl _, fun i H x H' hi _ y => ⟨hi, y.1, ?_⟩⟩ : Walk (Itc (a + (((b - a).toNat : Nat) : Int) - 1) (-1) (b - a).toNat) (b - a).toNat (fun _ => True) fun i H x H' => i < (b - a).toNat ∧ H' = H ∧ x = .int (a + (((b - a).toNat : Nat) : Int) - 1 - (i : Int)))) fun i H x H' y => y
    rw [y.2]
    congr 1
    omega)⟩

/-! what is forgotten -/
inductive Wk : List Sl → List Sl → Prop
  | nil : Wk [] []
  | keep {a : Sl} {l m : List Sl} : Wk l m → Wk (a :: l) (a :: m)
  | drop {a : Sl} {l m : List Sl} : Wk l m → Wk (a :: l) (.no :: m)
theorem Wk.refl : ∀ l : List Sl, Wk l l
  | [] => .nil
  | _ :: l => .keep (Wk.refl l)
theorem Wk.get : ∀ {l m : List Sl} {i : Nat} {x : Sl}, Wk l m → m[i]? = some x → x = .no ∨ l[i]? = some x
  | _, _, i, x, .nil, h => by simp at h
  | _, _, 0, x, .keep _, h => .inr (by simpa using h)
  | _, _, 0, x, .drop _, h => .inl (by simp at h; exact h.symm)
  | _, _, i + 1, x, .keep w, h => by
    have := Wk.get (i := i) (x := x) w (by simpa using h)
    simpa using this
  | _, _, i + 1, x, .drop w, h => by
    have := Wk.get (i := i) (x := x) w (by simpa using h)
    simpa using this
theorem Wk.length : ∀ {l m : List Sl}, Wk l m → l.length = m.length
  | _, _, .nil => rfl
  | _, _, .keep w => by rw [List.length_cons, List.length_cons, Wk.length w]
  | _, _, .drop w => by rw [List.length_cons, List.length_cons, Wk.length w]
theorem En.weak {H0 F0 F H : Hp} {σ : L2.St} {G' : List Sl} (E : Cy.En K H0 F0 F H σ G) (w : Wk G G') : Cy.En K H0 F0 F H σ G' where
  dat := fun i d h => by
    rcases w.get h with z | z
    · cases z
    · exact E.dat i d z
  own := fun i d h => by
    rcases w.get h with z | z
    · cases z
    · exact E.own i d z
  dis := fun i j li lj p hij h1 h2 h3 => by
    rcases w.get h1 with z | z
    · cases z
    · rcases w.get h2 with y | y
      · cases y
      · exact E.dis i j li lj p hij z y h3
  e0 := E.e0
  ef := E.ef
  e1 := E.e1
  nf := E.nf
  len := by rw [E.len, w.length]
theorem st_weak (h : StD K tu G (.nx G1)) (w : Wk G1 G2) : StD K tu G (.nx G2) := .mk fun {H0 F0 F H σ E} En p => h En fun σ F' H' E' f => p σ F' H' (E'.weak w) f
theorem st_from (h : StD K tu G1 o) (w : Wk G G1) : StD K tu G o := .mk fun {H0 F0 F H σ E} En p => h (En.weak w) p

/-! loops -/
def Goes (s : Out) (C : List Sl) : Prop := ∃ C', (s = .nx C' ∨ s = .ct C') ∧ Wk C' C
def Ends' (s o : Out) : Prop := (∃ d, s = .rt d ∧ o = .rt d) ∨ (∃ l, s = .ro l ∧ o = .ro l) ∨ (∃ l m, s = .ro2 l m ∧ o = .ro2 l m) ∨ (∃ C X, s = .ex C X ∧ o = .ex C X) ∨ ∃ C, s = .bk C ∧ o = .nx C
theorem st_for {wi : TI} {items : List D} (hi : ItD K wi G items) (C : Nat → List Sl) (h0 : C 0 = G) (T : Nat → List Sl) (ht : ∀ i d, items[i]? = some d → TgD K g (C i) d (T i)) (S : Nat → Out)
    (hb : ∀ i, i < items.length → (∀ j, j < i → Goes (S j) (C (j + 1))) → StD K tu (T i) (S i)) (hS : ∀ i, i < items.length → Goes (S i) (C (i + 1)) ∨ Ends' (S i) o)
    (hd : (∀ i, i < items.length → Goes (S i) (C (i + 1))) → o = .nx (C items.length)) : StD K (tFor wi g tu) G o := by
  refine ⟨?_⟩
  intro H0 F0 F H σ E En p
  refine hi En _ fun J F1 H1 E1 f1 g1 n1 wk => ?_
  obtain ⟨Gp, Y, w, hg, hy⟩ := wk.ex
  refine for_it w (fun i σ H => ∃ F', Cy.En K H0 F0 F' H σ (C i) ∧ Ex F1 F' ∧ ∀ j, j < i → Goes (S j) (C (j + 1))) ⟨F1, by rw [h0]; exact E1, Ex.refl _, fun j hj => absurd hj (Nat.not_lt_zero _)⟩
    (fun i σ H _ ⟨F', E', e', _⟩ => hg H (e'.trans E'.ef)) ?_ ?_
  · rintro i x σ2 H2 H3 hlt ⟨F', E', e', hp⟩ y
    obtain ⟨F2, d, k1, k2, k3, k4, hd2, r2⟩ := hy i H2 x H3 F' e' E'.ef y
    have E3 : Cy.En K H0 F0 F2 H3 σ2 (C i) := E'.grow k1 k2 k3 k4
    refine ht i d hd2 E3 r2 _ fun σ4 E4 => ?_
    refine hb i hlt hp E4 ?_
    rcases hS i hlt with hs | hs
    · have hnext : ∀ (σ : L2.St) (F'' H'' : Hp), Cy.En K H0 F0 F'' H'' σ (C (i + 1)) → Ex F2 F'' → ∃ F', Cy.En K H0 F0 F' H'' σ (C (i + 1)) ∧ Ex F1 F' ∧ ∀ j, j < i + 1 → Goes (S j) (C (j + 1)) := fun σ F'' H'' E'' f'' =>
        ⟨F'', E'', (e'.trans k1).trans f'', fun j hj => by
          by_cases hji : j < i
          · exact hp j hji
          · have ej : j = i := by omega
            rw [ej]
            exact hs⟩
      obtain ⟨C', hs | hs, hw⟩ := hs
      · rw [hs]
        exact fun σ F'' H'' E'' f'' => hnext σ F'' H'' (E''.weak hw) f''
      · rw [hs]
        exact fun σ F'' H'' E'' f'' => hnext σ F'' H'' (E''.weak hw) f''
    · rcases hs with ⟨d', hs, ho⟩ | ⟨l', hs, ho⟩ | ⟨l', m', hs, ho⟩ | ⟨C', X', hs, ho⟩ | ⟨C', hs, ho⟩
      · rw [hs]
        rw [ho] at p
        exact p
      · rw [hs]
        rw [ho] at p
        exact p
      · rw [hs]
        rw [ho] at p
        exact p
      · rw [hs]
        rw [ho] at p
        exact p
      · rw [hs]
        rw [ho] at p
        exact fun σ F'' H'' E'' f'' => p σ F'' H'' E'' ((((f1.trans e').trans k1).trans f''))
  · rintro σ2 H2 ⟨F', E', e', hp⟩
    have ho := hd hp
    rw [ho] at p
    exact p σ2 F' H2 E' (f1.trans e')

/-! comprehensions -/
def wipeG (G : List Sl) : List Nat → List Sl
  | [] => G
  | v :: vs => (wipeG G vs).set v .no
theorem En.setN {H0 F0 F H : Hp} {σ : L2.St} (E : Cy.En K H0 F0 F H σ G) (i : Nat) : Cy.En K H0 F0 F H (σ.set i none) (G.set i .no) where
  dat := fun j e h => by
    by_cases q : i = j
    · subst q
      by_cases hl : i < G.length
      · rw [List.getElem?_set_self hl] at h
        cases h
      · rw [List.getElem?_eq_none (by rw [List.length_set]; omega)] at h
        cases h
    · rw [List.getElem?_set_ne q] at h ⊢
      exact E.dat j e h
  own := fun j l' h => by
    by_cases q : i = j
    · subst q
      by_cases hl : i < G.length
      · rw [List.getElem?_set_self hl] at h
        cases h
      · rw [List.getElem?_eq_none (by rw [List.length_set]; omega)] at h
        cases h
    · rw [List.getElem?_set_ne q] at h ⊢
      exact E.own j l' h
  dis := fun a b la lb p hab h1 h2 h3 => by
    have na : i ≠ a := fun q => by
      subst q
      by_cases hl : i < G.length
      · rw [List.getElem?_set_self hl] at h1
        cases h1
      · rw [List.getElem?_eq_none (by rw [List.length_set]; omega)] at h1
        cases h1
    have nb : i ≠ b := fun q => by
      subst q
      by_cases hl : i < G.length
      · rw [List.getElem?_set_self hl] at h2
        cases h2
      · rw [List.getElem?_eq_none (by rw [List.length_set]; omega)] at h2
        cases h2
    rw [List.getElem?_set_ne na] at h1 h3
    rw [List.getElem?_set_ne nb] at h2 ⊢
    exact E.dis a b la lb p hab h1 h2 h3
  e0 := E.e0
  ef := E.ef
  e1 := E.e1
  nf := E.nf
  len := by rw [List.length_set, List.length_set, E.len]
theorem En.wipe {H0 F0 F H : Hp} {σ : L2.St} (E : Cy.En K H0 F0 F H σ G) : ∀ vs : List Nat, Cy.En K H0 F0 F H (L2.wipe σ vs) (wipeG G vs)
  | [] => E
  | v :: vs => (En.wipe E vs).setN v
/-- a target stores into these slots alone -/
def Keeps (g : TG) (vs : List Nat) : Prop := ∀ (x : V) (σ : L2.St) (H : Hp) (Q : L2.St → Hp → Prop), g x (L2.wipe σ vs) H Q → g x (L2.wipe σ vs) H fun σ2 H2 => L2.wipe σ2 vs = L2.wipe σ vs ∧ Q σ2 H2
theorem keeps1 {j : Nat} : Keeps (gName j) [j] := fun x σ H Q h => ⟨by show ((σ.set j none).set j (some x)).set j none = σ.set j none; rw [List.set_set, List.set_set], h⟩
theorem keeps2 {n i j : Nat} (hij : i ≠ j) : Keeps (gTup K n (gCons (gName i) (gCons (gName j) gNil))) [i, j] := fun x σ H Q h => by
  obtain ⟨a, xs, rfl, hs, hl, v, r, rfl, w, r', rfl, hr, q⟩ := h
  refine ⟨a, _, rfl, hs, hl, v, _, rfl, w, _, rfl, hr, ?_, q⟩
  show (((((σ.set j none).set i none).set i (some v)).set j (some w)).set j none).set i none = (σ.set j none).set i none
  rw [List.set_set, List.set_set, List.set_comm _ _ hij.symm, List.set_set, List.set_comm _ _ hij, List.set_set]
/-- which turns give, and what -/
def lcD (n : Nat) (f : Nat → Bool) (v : Nat → D) : List D := ((List.range n).filter f).map v
theorem lcD_yes {n : Nat} {f : Nat → Bool} {v : Nat → D} (h : f n = true) : lcD (n + 1) f v = lcD n f v ++ [v n] := by
  unfold lcD
  rw [List.range_succ, List.filter_append, List.map_append, List.filter_cons, if_pos h] <;> rfl
theorem lcD_no {n : Nat} {f : Nat → Bool} {v : Nat → D} (h : f n = false) : lcD (n + 1) f v = lcD n f v := by
  unfold lcD
  rw [List.range_succ, List.filter_append, List.map_append, List.filter_cons, if_neg (by rw [h]; decide)]
  show _ ++ [] = _
  rw [List.append_nil]
theorem lcD_len (n : Nat) (f : Nat → Bool) (v : Nat → D) : (lcD n f v).length ≤ n := by
  unfold lcD
  rw [List.length_map]
  have h := List.length_filter_le f (List.range n)
  rw [List.length_range] at h
  exact h
theorem o_lc {wi : TI} {items : List D} {vs : List Nat} (f : Nat → Bool) (v : Nat → D) (T : Nat → List Sl) (hk : Keeps g vs) (hi : ItD K wi G items) (hz : items.length ≤ 40000)
    (ht : ∀ i d, items[i]? = some d → TgD K g (wipeG G vs) d (T i)) (hf : ∀ i, i < items.length → EvTt K tt (T i) (f i)) (hv : ∀ i, i < items.length → f i = true → EvD K te (T i) (v i)) :
    EvO K (tLc wi g tt te vs) G (lcD items.length f v) := by
  refine ⟨?_⟩
  intro H0 F0 F H σ E Q q
  refine hi E _ fun J F1 H1 E1 f1 g1 n1 wk => ?_
  obtain ⟨Gp, Y, w, hg, hy⟩ := wk.ex
  intro Dl hD
  refine lc_it w (fun i H' => ∃ F' acc, Cy.En K H0 F0 F' H' σ G ∧ Ex F1 F' ∧ Ex H1 H' ∧ Nw F1 F' H1 ∧ F' Dl = none ∧ H' Dl = some (.lst acc) ∧ RpA K F' acc (lcD i f v)) ?_ (fun i H' _ ⟨F', acc, E', e', _⟩ => hg H' (e'.trans E'.ef)) ?_ ?_
  · exact ⟨F1, [], E1.grow (Ex.refl _) (Ex.new hD) (E1.ef.trans (Ex.new hD)) (Nw.refl _ _), Ex.refl _, Ex.new hD, Nw.refl _ _, ex_none E1.ef hD, upd_same, .nil⟩
  · rintro i x H2 H3 hlt ⟨F', acc, E', e', gg, nn, hF, hH, hr⟩ y
    obtain ⟨F2, d, k1, k2, k3, k4, hd2, r2⟩ := hy i H2 x H3 F' e' E'.ef y
    have E3 : Cy.En K H0 F0 F2 H3 σ G := E'.grow k1 k2 k3 k4
    refine hk x σ H3 _ ?_
    refine ht i d hd2 (E3.wipe vs) r2 _ fun σ4 E4 => ?_
    have nD : Dl ≠ Dl ∨ True := .inr trivial
    have hH3 : H3 Dl = some (.lst acc) := k2 _ _ hH
    have hF2 : F2 Dl = none := by
      cases z : F2 Dl with
      | none => rfl
      | some o =>
        rcases k4 Dl o z with y | y
        · rw [hF] at y
          cases y
        · rw [hH] at y
          cases y
    have n2 : Nw F1 F2 H1 := nn.trans k4 gg
    refine hf i hlt E4 _ fun F5 H5 E5 f5 g5 n5 => ?_
    have hF5 : F5 Dl = none := by
      cases z : F5 Dl with
      | none => rfl
      | some o =>
        rcases n5 Dl o z with y | y
        · rw [hF2] at y
          cases y
        · rw [hH3] at y
          cases y
    have E5' : Cy.En K H0 F0 F5 H5 σ G := E3.grow f5 g5 E5.ef n5
    have n5' : Nw F1 F5 H1 := n2.trans n5 (gg.trans k2)
    cases hfi : f i with
    | true =>
      show te σ4 H5 _
      refine hv i hlt hfi E5 _ fun v6 F6 H6 E6 f6 g6 n6 r6 => ?_
      have hH6 : H6 Dl = some (.lst acc) := g6 _ _ (g5 _ _ hH3)
      have hF6 : F6 Dl = none := by
        cases z : F6 Dl with
        | none => rfl
        | some o =>
          rcases n6 Dl o z with y | y
          · rw [hF5] at y
            cases y
          · rw [g5 _ _ hH3] at y
            cases y
      have hlen : acc.length ≤ i := by
        rw [hr.length]
        exact lcD_len i f v
      have n6' : Nw F1 F6 H1 := n5'.trans n6 ((gg.trans k2).trans g5)
      refine ⟨acc, hH6, sz_lt (by omega), F6, acc ++ [v6], ?_, ((e'.trans k1).trans f5).trans f6, ?_, n6', hF6, upd_same, ?_⟩
      · have E6' : Cy.En K H0 F0 F6 H6 σ G := E5'.grow f6 g6 E6.ef n6
        refine ⟨E6'.dat, fun j l h => ?_, E6'.dis, fun a o h => ?_, fun a o h => ?_, E6'.e1, E6'.nf, E6'.len⟩
        · obtain ⟨p, xs, a1, b1, c1, d1, r1⟩ := E1.own j l h
          obtain ⟨p2, xs2, a2, b2, c2, d2, r2⟩ := E6'.own j l h
          rw [a1] at a2
          cases a2
          have hne : p ≠ Dl := ne_of_none d1 hD
          exact ⟨p, xs2, a1, b2, c2, by rw [upd_ne hne]; exact d2, r2⟩
        · have hne : a ≠ Dl := fun z => by
            subst z
            rw [ex_none E1.e0 hD] at h
            cases h
          rw [upd_ne hne]
          exact E6'.e0 a o h
        · have hne : a ≠ Dl := fun z => by
            subst z
            rw [hF6] at h
            cases h
          rw [upd_ne hne]
          exact E6'.ef a o h
      · exact Ex.mut (((gg.trans k2).trans g5).trans g6) hD
      · rw [lcD_yes hfi]
        exact (hr.mono ((k1.trans f5).trans f6)).app (.cons r6 .nil)
    | false =>
      refine ⟨F5, acc, E5', (e'.trans k1).trans f5, (gg.trans k2).trans g5, n5', hF5, g5 _ _ hH3, ?_⟩
      rw [lcD_no hfi]
      exact hr.mono (k1.trans f5)
  · rintro H2 ⟨F', acc, E', e', gg, nn, hF, hH, hr⟩
    exact q Dl acc F' H2 E' (f1.trans e') (g1.trans gg) (n1.trans nn g1) (ex_none g1 hD) hF hH hr
end
end Cy
namespace Cy
open PySem L2 Evl
theorem spD_len {K : PySem.W.Frag} {R : List D → D → Prop} {vs : List V} {H : Hp} {Q : VK} {E : XK} {n : Nat} (hR : ∀ ds d, R ds d → ds.length = n) (h : spD K R vs H Q E) : vs.length = n := by
  obtain ⟨F, ds, d, e, r, h1, _⟩ := h
  rw [r.length]
  exact hR ds d h1
theorem spO_len {K : PySem.W.Frag} {R : List D → List D → Prop} {vs : List V} {H : Hp} {Q : VK} {E : XK} {n : Nat} (hR : ∀ ds d, R ds d → ds.length = n) (h : spO K R vs H Q E) : vs.length = n := by
  obtain ⟨F, ds, d, e, r, h1, _⟩ := h
  rw [r.length]
  exact hR ds d h1
/-- the law's end -/
theorem law_endD {K : PySem.W.Frag} {R : List D → D → Prop} {H : Hp} {a : Addr} {ns : List Int} (hS : SqL K H a (ns.map V.int)) (hR : R [.scr ns] (.bl true)) : spD K R [.ref a] H (fun v _ => v = .bl true) fun _ _ _ => False :=
  ⟨H, [.scr ns], .bl true, Ex.refl H, .cons (.scr hS) .nil, hR, fun v F' H' ro r => by
    cases r
    rfl⟩
end Cy

set_option Elab.async false
set_option linter.all false
set_option maxRecDepth 100000
set_option maxHeartbeats 2000000
namespace Cy
open PySem L2 Evl

/-! operators, whatever they are of -/
def orR (r r' : R2) : R2 := fun x y H Q => r x y H Q ∨ r' x y H Q
def orC (r r' : List V → Hp → VK → Prop) : List V → Hp → VK → Prop := fun xs H Q => r xs H Q ∨ r' xs H Q
def rAddS : R2 := fun x y H Q => ∃ i j, x = .str i ∧ y = .str j ∧ i.length + j.length ≤ sizeLine ∧ Q (.str (i ++ j)) H
def rLtS : R2 := fun x y H Q => ∃ i j, x = .str i ∧ y = .str j ∧ Q (.bl (decide (i.cps.toList < j.cps.toList))) H
def rLeS : R2 := fun x y H Q => ∃ i j, x = .str i ∧ y = .str j ∧ Q (.bl (!decide (j.cps.toList < i.cps.toList))) H
def rInC : R2 := fun x y H Q => ∃ (c : Nat) (z : Str), x = .str ⟨#[c]⟩ ∧ y = .str z ∧ Q (.bl (decide (c ∈ z.cps.toList))) H
def rNiC : R2 := fun x y H Q => ∃ (c : Nat) (z : Str), x = .str ⟨#[c]⟩ ∧ y = .str z ∧ Q (.bl (!decide (c ∈ z.cps.toList))) H
def rIsNn : R2 := fun x y H Q => y = .non ∧ Q (.bl (decide (x = .non))) H
def rNiNn : R2 := fun x y H Q => y = .non ∧ Q (.bl (!decide (x = .non))) H
def gAdd (K : PySem.W.Frag) : R2 := orR (rI0 fun i j => .int (i + j)) (orR rAddS rCat)
def gSub : R2 := rI0 fun i j => .int (i - j)
def gMul : R2 := orR (rI CMul fun i j => .int (i * j)) rRep
def gFdv : R2 := rI CDivW fun i j => .int (i / j)
def gMod : R2 := rI (fun _ j => 0 < j) fun i j => .int (i % j)
def gPow : R2 := rI CPow fun i j => .int (i ^ j.toNat)
def gLt : R2 := orR (rI0 fun i j => .bl (decide (i < j))) rLtS
def gLe : R2 := orR (rI0 fun i j => .bl (decide (i ≤ j))) rLeS
def gGt : R2 := rI0 fun i j => .bl (decide (j < i))
def gGe : R2 := rI0 fun i j => .bl (decide (j ≤ i))
def gEq (K : PySem.W.Frag) : R2 := orR rEq (rEqD K)
/-- two lists of unlike lengths -/
def rNeLen (K : PySem.W.Frag) : R2 := fun x y H Q => ∃ a b xs ys, x = .ref a ∧ y = .ref b ∧ SqL K H a xs ∧ SqL K H b ys ∧ xs.length ≠ ys.length ∧ Q (.bl true) H
def gNe (K : PySem.W.Frag) : R2 := orR rNe (orR (rNeD K) (rNeLen K))
def gIn (K : PySem.W.Frag) : R2 := orR rInC (rIn K false)
def gNi (K : PySem.W.Frag) : R2 := orR rNiC (rIn K true)
def gIs : R2 := orR rIsNn rIsB
def gIn2 : R2 := orR rNiNn rNotB
def gIx (K : PySem.W.Frag) : R2 := rIx K
section
variable {X : Cx}
theorem op_gAdd : OpR X (binaryOp .Add) (gAdd X.K) := op_add.or (op_add_str.or op_cat)
theorem op_gSub : OpR X (binaryOp .Sub) gSub := op_sub
theorem op_gMul : OpR X (binaryOp .Mult) gMul := op_mul.or op_rep
theorem op_gFdv : OpR X (binaryOp .FloorDiv) gFdv := op_fdivW
theorem op_gMod : OpR X (binaryOp .Mod) gMod := op_mod
theorem op_gPow : OpR X (binaryOp .Pow) gPow := op_pow
theorem op_gLt : OpR X (compareOp .Lt) gLt := op_lt.or op_lt_str
theorem op_gLe : OpR X (compareOp .LtE) gLe := op_le.or op_le_str
theorem op_gGt : OpR X (compareOp .Gt) gGt := op_gt
theorem op_gGe : OpR X (compareOp .GtE) gGe := op_ge
theorem op_gEq (hu : X.A.units + 64 < cLine) : OpR X (compareOp .Eq) (gEq X.K) := op_eq.or (op_eqD hu)
theorem op_neLen (hu : X.A.units + 64 < cLine) : OpR X (compareOp .NotEq) (rNeLen X.K) := by
  intro pins s σ H x y v u Q I rx ry h
  obtain ⟨a, b, xs, ys, rfl, rfl, h1, h2, hne, q⟩ := h
  cases (show v = Value.ref a from rx)
  cases (show u = Value.ref b from ry)
  obtain ⟨us, r1, p1, _⟩ := I.list h1
  obtain ⟨ws, r2, p2, _⟩ := I.list h2
  have hsz : us.toArray.size ≠ ws.toArray.size := by
    rw [List.size_toArray, List.size_toArray, ← r1.length, ← r2.length]
    exact hne
  exact SeqAt.RcNeAt.lists_lengths p1.isList p2.isList (by simpa using hsz) (by omega) X.prog X.w _ _ ⟨.bl true, H, I, rfl, q⟩
theorem op_gNe (hu : X.A.units + 64 < cLine) : OpR X (compareOp .NotEq) (gNe X.K) := op_ne.or ((op_neD hu).or (op_neLen hu))
theorem op_gIn : OpR X (compareOp .In) (gIn X.K) := op_in_sign.or op_in_seq
theorem op_gNi : OpR X (compareOp .NotIn) (gNi X.K) := op_notIn_sign.or op_notIn_seq
theorem op_gIs : OpR X (compareOp .Is) gIs := op_isN.or op_isBl
theorem op_gIsn : OpR X (compareOp .IsNot) gIn2 := op_notN.or op_notBl
def rMax2 : List V → Hp → VK → Prop := fun xs H Q => ∃ i j, xs = [.int i, .int j] ∧ Q (.int (if j > i then j else i)) H
def rMin2 : List V → Hp → VK → Prop := fun xs H Q => ∃ i j, xs = [.int i, .int j] ∧ Q (.int (if j < i then j else i)) H
def rAbs : List V → Hp → VK → Prop := fun xs H Q => ∃ i, xs = [.int i] ∧ Q (.int (if i < 0 then -i else i)) H
def rLen (K : PySem.W.Frag) : List V → Hp → VK → Prop := fun xs H Q => ∃ x n, xs = [x] ∧ LenV K x H n ∧ Q (.int n) H
def rInt1 : List V → Hp → VK → Prop := fun xs H Q => (∃ i, xs = [.int i] ∧ Q (.int i) H) ∨ ∃ k, xs = [.bl k] ∧ Q (.int (if k then 1 else 0)) H
def rIntS : List V → Hp → VK → Prop := fun xs H Q => ∃ a n, xs = [.str a] ∧ PySem.intText? a = some n ∧ a.length ≤ 640 ∧ Q (.int n) H
def rStrI : List V → Hp → VK → Prop := fun xs H Q => ∃ i, xs = [.int i] ∧ i.natAbs.log2 < 1920 ∧ Q (.str (toString i)) H
def rStrS : List V → Hp → VK → Prop := fun xs H Q => ∃ a, xs = [.str a] ∧ Q (.str a) H
def rListOf (K : PySem.W.Frag) : List V → Hp → VK → Prop := fun xs H Q => ∃ p ys, xs = [.ref p] ∧ (SqL K H p ys ∨ SqT K H p ys) ∧ ∀ l, H l = none → Q (.ref l) (upd H l (.lst ys))
def rReprI : List V → Hp → VK → Prop := fun xs H Q => ∃ i, xs = [.int i] ∧ i.natAbs.log2 < 1920 ∧ Q (.str (toString i)) H
def rReprB : List V → Hp → VK → Prop := fun xs H Q => ∃ b : Bool, xs = [.bl b] ∧ Q (.str (if b then "True" else "False")) H
def rReprS : List V → Hp → VK → Prop := fun xs H Q => ∃ a, xs = [.str a] ∧ (reprText a).length ≤ sizeLine ∧ Q (.str (reprText a)) H
def rReprN : List V → Hp → VK → Prop := fun xs H Q => xs = [.non] ∧ Q (.str "None") H
def gMax (K : PySem.W.Frag) := orC rMax2 (rMax K)
def gMin (K : PySem.W.Frag) := orC rMin2 (rMin K)
def gInt := orC rInt1 rIntS
def gStr := orC rStrI rStrS
def gRepr := orC rReprI (orC rReprB (orC rReprN rReprS))
theorem call_gMax (hc : X.calm = true) : CallR X (.builtin "max") (gMax X.K) := (call_max2 hc).or (cr_max hc)
theorem call_gMin (hc : X.calm = true) : CallR X (.builtin "min") (gMin X.K) := (call_min2 hc).or (cr_min hc)
theorem call_gAbs : CallR X (.builtin "abs") rAbs := call_abs
theorem call_gLen : CallR X (.builtin "len") (rLen X.K) := call_len
theorem call_gInt : CallR X (.type "int") gInt := call_int1.or call_int_str
theorem call_gStr : CallR X (.type "str") gStr := call_str_int.or SkE.call_str_str
theorem call_gList : CallR X (.type "list") (rListOf X.K) := call_list_of
theorem call_reprB : CallR X (.builtin "repr") rReprB := by
  intro pins s σ H xs us Q I r h
  obtain ⟨i, rfl, q⟩ := h
  obtain ⟨u, rfl, rfl⟩ := vals1 r
  exact PySem.P.repr_of_bool ⟨.str _, H, I.tok _, ⟨_, rfl⟩, q⟩
theorem call_reprN : CallR X (.builtin "repr") rReprN := by
  intro pins s σ H xs us Q I r h
  obtain ⟨rfl, q⟩ := h
  obtain ⟨u, rfl, rfl⟩ := vals1 r
  exact PySem.P.repr_of_none ⟨.str _, H, I.tok _, ⟨_, rfl⟩, q⟩
theorem call_reprS : CallR X (.builtin "repr") rReprS := by
  intro pins s σ H xs us Q I r h
  obtain ⟨i, rfl, hz, q⟩ := h
  obtain ⟨u, rfl, t, rfl⟩ := vals1 r
  exact PySem.P.repr_of_str ⟨.str _, H, I.tok _, ⟨_, rfl⟩, q⟩ hz
theorem call_gRepr : CallR X (.builtin "repr") gRepr := SkE.call_repr_int.or (call_reprB.or (call_reprN.or call_reprS))
end
def gSl (K : PySem.W.Frag) : V → Option Int → Option Int → Hp → VK → Prop := fun x lo hi H Q => rSlL K x lo hi H Q ∨ rSlS x lo hi H Q
theorem sl_gSl {X : Cx} : SlR X (gSl X.K) := sl_list.or sl_str

/-! what they give of data -/
def kindD : D → String
  | .non => "NoneType"
  | .bl _ => "bool"
  | .int _ => "int"
  | .str _ => "str"
  | .lst _ => "list"
  | .tup _ => "tuple"
  | .dic _ => "dict"
  | .obj _ _ => "object"
  | .scr _ => "list"
  | .exc _ => "object"
  | .ptr _ => "object"
def noObj : D → Bool
  | .obj _ _ => false
  | .exc _ => false
  | .ptr _ => false
  | _ => true
section
variable {K : PySem.W.Frag} {G : List Sl} {ta tb te : TE} {d : D} {l m : List D}
theorem op2_v {r : R2} {a b c : D} (h : ∀ {F H : Hp} {x y : V}, Ex F H → Rp K F x a → Rp K F y b → ∃ z, Rp K F z c ∧ ∀ Q : VK, Q z H → r x y H Q) : Op2 K r a b c := .mk fun {F H x y} e r1 r2 Q q => by
  obtain ⟨z, h1, h2⟩ := h e r1 r2
  exact h2 Q (q z F H (Ex.refl F) e (Ex.refl H) (Nw.refl F H) h1)
theorem op1_v {r : List V → Hp → VK → Prop} {ds : List D} {c : D} (h : ∀ {F H : Hp} {vs : List V}, Ex F H → RpA K F vs ds → ∃ z, Rp K F z c ∧ ∀ Q : VK, Q z H → r vs H Q) : OpN K r ds c := .mk fun {F H vs} e r1 Q q => by
  obtain ⟨z, h1, h2⟩ := h e r1
  exact h2 Q (q z F H (Ex.refl F) e (Ex.refl H) (Nw.refl F H) h1)
theorem rp_int {F : Hp} {v : V} {i : Int} (h : Rp K F v (.int i)) : v = .int i := by
  cases h
  rfl
theorem rp_str {F : Hp} {v : V} {i : Str} (h : Rp K F v (.str i)) : v = .str i := by
  cases h
  rfl
theorem rp_bl {F : Hp} {v : V} {i : Bool} (h : Rp K F v (.bl i)) : v = .bl i := by
  cases h
  rfl
theorem rp_non {F : Hp} {v : V} (h : Rp K F v .non) : v = .non := by
  cases h
  rfl
theorem rpa1 {F : Hp} {vs : List V} {a : D} (h : RpA K F vs [a]) : ∃ v, vs = [v] ∧ Rp K F v a := by
  cases h with
  | cons r t =>
    cases t
    exact ⟨_, rfl, r⟩
theorem rpa2 {F : Hp} {vs : List V} {a b : D} (h : RpA K F vs [a, b]) : ∃ v w, vs = [v, w] ∧ Rp K F v a ∧ Rp K F w b := by
  cases h with
  | cons r t =>
    cases t with
    | cons r2 t =>
      cases t
      exact ⟨_, _, rfl, r, r2⟩
theorem d_ii {g : Int → Int → V} {c : Int → Int → D} (hg : ∀ F i j, Rp K F (g i j) (c i j)) (i j : Int) : Op2 K (rI0 g) (.int i) (.int j) (c i j) := op2_v fun {F H x y} e r1 r2 => ⟨g i j, hg F i j, fun Q q => ⟨i, j, rp_int r1, rp_int r2, q⟩⟩
theorem d_iiC {C : Int → Int → Prop} {g : Int → Int → V} {c : Int → Int → D} (hg : ∀ F i j, Rp K F (g i j) (c i j)) {i j : Int} (hc : C i j) : Op2 K (rI C g) (.int i) (.int j) (c i j) := op2_v fun {F H x y} e r1 r2 => ⟨g i j, hg F i j, fun Q q => ⟨i, j, rp_int r1, rp_int r2, hc, q⟩⟩
theorem op2_l {r r' : R2} {a b c : D} (h : Op2 K r a b c) : Op2 K (orR r r') a b c := .mk fun {F H x y} e r1 r2 Q q => Or.inl (h e r1 r2 Q q)
theorem op2_r {r r' : R2} {a b c : D} (h : Op2 K r' a b c) : Op2 K (orR r r') a b c := .mk fun {F H x y} e r1 r2 Q q => Or.inr (h e r1 r2 Q q)
theorem opn_l {r r' : List V → Hp → VK → Prop} {ds : List D} {c : D} (h : OpN K r ds c) : OpN K (orC r r') ds c := .mk fun {F H vs} e r1 Q q => Or.inl (h e r1 Q q)
theorem opn_r {r r' : List V → Hp → VK → Prop} {ds : List D} {c : D} (h : OpN K r' ds c) : OpN K (orC r r') ds c := .mk fun {F H vs} e r1 Q q => Or.inr (h e r1 Q q)
theorem d_addI {i j : Int} : Op2 K (gAdd K) (.int i) (.int j) (.int (i + j)) := op2_l (d_ii (c := fun i j => .int (i + j)) (fun _ _ _ => .int _) i j)
theorem d_subI {i j : Int} : Op2 K gSub (.int i) (.int j) (.int (i - j)) := d_ii (c := fun i j => .int (i - j)) (fun _ _ _ => .int _) i j
theorem d_mulI {i j : Int} (h : CMul i j) : Op2 K gMul (.int i) (.int j) (.int (i * j)) := op2_l (d_iiC (c := fun i j => .int (i * j)) (fun _ _ _ => .int _) h)
theorem d_fdv {i j : Int} (h : 0 < j) (h2 : j < 18446744073709551616) : Op2 K gFdv (.int i) (.int j) (.int (i / j)) := d_iiC (c := fun i j => .int (i / j)) (fun _ _ _ => .int _) (wide_div (b := 64) h (by omega) (by decide) (by decide))
theorem d_mod {i j : Int} (h : 0 < j) : Op2 K gMod (.int i) (.int j) (.int (i % j)) := d_iiC (C := fun _ j => 0 < j) (c := fun i j => .int (i % j)) (fun _ _ _ => .int _) (i := i) (j := j) h
theorem d_pow {i j : Int} (h : CPow i j) : Op2 K gPow (.int i) (.int j) (.int (i ^ j.toNat)) := d_iiC (c := fun i j => .int (i ^ j.toNat)) (fun _ _ _ => .int _) h
theorem d_pow9 : Op2 K gPow (.int 10) (.int 9) (.int 1000000000) := by
  have h := d_pow (K := K) (i := 10) (j := 9) ⟨by decide, by decide, by decide⟩
  exact h
theorem d_pow12 : Op2 K gPow (.int 10) (.int 12) (.int 1000000000000) := by
  have h := d_pow (K := K) (i := 10) (j := 12) ⟨by decide, by decide, by decide⟩
  exact h
theorem d_pow6 : Op2 K gPow (.int 10) (.int 6) (.int 1000000) := by
  have h := d_pow (K := K) (i := 10) (j := 6) ⟨by decide, by decide, by decide⟩
  exact h
theorem d_ltI {i j : Int} : Op2 K gLt (.int i) (.int j) (.bl (decide (i < j))) := op2_l (d_ii (c := fun i j => .bl (decide (i < j))) (fun _ _ _ => .bl _) i j)
theorem d_leI {i j : Int} : Op2 K gLe (.int i) (.int j) (.bl (decide (i ≤ j))) := op2_l (d_ii (c := fun i j => .bl (decide (i ≤ j))) (fun _ _ _ => .bl _) i j)
theorem d_gtI {i j : Int} : Op2 K gGt (.int i) (.int j) (.bl (decide (j < i))) := d_ii (c := fun i j => .bl (decide (j < i))) (fun _ _ _ => .bl _) i j
theorem d_geI {i j : Int} : Op2 K gGe (.int i) (.int j) (.bl (decide (j ≤ i))) := d_ii (c := fun i j => .bl (decide (j ≤ i))) (fun _ _ _ => .bl _) i j
theorem d_addS {i j : Str} (h : i.length + j.length ≤ 100000) : Op2 K (gAdd K) (.str i) (.str j) (.str (i ++ j)) := op2_r (op2_l (op2_v fun {F H x y} e r1 r2 => ⟨.str (i ++ j), .str _, fun Q q => ⟨i, j, rp_str r1, rp_str r2, sz_of h, q⟩⟩))
theorem d_leS {i j : Str} : Op2 K gLe (.str i) (.str j) (.bl (!decide (j.cps.toList < i.cps.toList))) := op2_r (op2_v fun {F H x y} e r1 r2 => ⟨.bl _, .bl _, fun Q q => ⟨i, j, rp_str r1, rp_str r2, q⟩⟩)
theorem d_ltS {i j : Str} : Op2 K gLt (.str i) (.str j) (.bl (decide (i.cps.toList < j.cps.toList))) := op2_r (op2_v fun {F H x y} e r1 r2 => ⟨.bl _, .bl _, fun Q q => ⟨i, j, rp_str r1, rp_str r2, q⟩⟩)
theorem d_inC {c : Nat} {z : Str} : Op2 K (gIn K) (.str ⟨#[c]⟩) (.str z) (.bl (decide (c ∈ z.cps.toList))) := op2_l (op2_v fun {F H x y} e r1 r2 => ⟨.bl _, .bl _, fun Q q => ⟨c, z, rp_str r1, rp_str r2, q⟩⟩)
theorem d_niC {c : Nat} {z : Str} : Op2 K (gNi K) (.str ⟨#[c]⟩) (.str z) (.bl (!decide (c ∈ z.cps.toList))) := op2_l (op2_v fun {F H x y} e r1 r2 => ⟨.bl _, .bl _, fun Q q => ⟨c, z, rp_str r1, rp_str r2, q⟩⟩)
theorem d_catL {a b : List D} (h : a.length + b.length ≤ 100000) : Op2O K (gAdd K) (.lst a) (.lst b) (a ++ b) := .mk fun {F H x y} e r1 r2 Q q => by
  cases r1 with
  | lst h1 s1 =>
    cases r2 with
    | lst h2 s2 => exact Or.inr (Or.inr ⟨_, _, _, _, rfl, rfl, e _ _ h1, e _ _ h2, sz_of (by rw [s1.length, s2.length]; exact h), fun p hp => q p _ _ (Ex.new hp) hp upd_same (s1.app s2)⟩)
/-! equality -/
mutual
def toP : D → PyData
  | .non => .none
  | .bl b => .bool b
  | .int i => .int i
  | .str s => .str s
  | .lst xs => .list (toPs xs)
  | .tup xs => .tuple (toPs xs)
  | .dic _ => .none
  | .obj _ _ => .none
  | .scr ns => .list (ns.map PyData.int)
  | .exc _ => .none
  | .ptr _ => .none
def toPs : List D → List PyData
  | [] => []
  | x :: xs => toP x :: toPs xs
end
mutual
def plain : D → Bool
  | .lst xs => plains xs
  | .tup xs => plains xs
  | .dic _ => false
  | .obj _ _ => false
  | .exc _ => false
  | .ptr _ => false
  | _ => true
def plains : List D → Bool
  | [] => true
  | x :: xs => plain x && plains xs
end
theorem dp_ints {F : Hp} : ∀ ns : List Int, DpAll K F (ns.map V.int) (ns.map PyData.int)
  | [] => .nil
  | n :: ns => .cons (.int n) (dp_ints ns)
mutual
theorem rp_dp {F : Hp} : ∀ {v : V} {d : D}, Rp K F v d → plain d = true → Dp K F v (toP d)
  | _, _, .non, _ => by unfold toP; exact .non
  | _, _, .bl b, _ => by unfold toP; exact .bl b
  | _, _, .int i, _ => by unfold toP; exact .int i
  | _, _, .str x, _ => by unfold toP; exact .str x
  | _, .lst ds, .lst h r, p => by
    unfold toP
    exact .lst (sq_of h) (rpa_dp r (by unfold plain at p; exact p))
  | _, .tup ds, .tup h r, p => by
    unfold toP
    exact .tup (st_of h) (rpa_dp r (by unfold plain at p; exact p))
  | _, .dic _, .dic _ _ _, p => by unfold plain at p; cases p
  | _, .obj _ _, .obj _ _ _, p => by unfold plain at p; cases p
  | _, .exc _, .exc _, p => by unfold plain at p; cases p
  | _, .ptr _, .ptr _, p => by unfold plain at p; cases p
  | _, .scr ns, .scr h, _ => by
    unfold toP
    exact .lst h (dp_ints ns)
theorem rpa_dp {F : Hp} : ∀ {vs : List V} {ds : List D}, RpA K F vs ds → plains ds = true → DpAll K F vs (toPs ds)
  | _, _, .nil, _ => by unfold toPs; exact .nil
  | _, d :: ds, .cons r t, p => by
    unfold plains at p
    rw [Bool.and_eq_true] at p
    unfold toPs
    exact .cons (rp_dp r p.1) (rpa_dp t p.2)
end
def eqD (a b : D) : Bool := PyData.eqv (toP a) (toP b)
def okEq (a : D) : Bool := plain a && SeqAt.shaped (toP a)
theorem d_eqD {a b : D} (ha : okEq a = true) (hb : okEq b = true) : Op2 K (gEq K) a b (.bl (eqD a b)) := op2_r (op2_v fun {F H x y} e r1 r2 => by
  unfold okEq at ha hb
  rw [Bool.and_eq_true] at ha hb
  exact ⟨.bl _, .bl _, fun Q q => ⟨toP a, toP b, rp_dp (r1.mono e) ha.1, rp_dp (r2.mono e) hb.1, ha.2, hb.2, q⟩⟩)
theorem sq_rp {F H : Hp} {v : V} {l : List D} (e : Ex F H) (r : Rp K F v (.lst l)) : ∃ a xs, v = .ref a ∧ SqL K H a xs ∧ xs.length = l.length := by
  cases r with
  | lst ha rs => exact ⟨_, _, rfl, sq_of (e _ _ ha), rs.length⟩
theorem d_neLen {a b : List D} (h : a.length ≠ b.length) : Op2 K (gNe K) (.lst a) (.lst b) (.bl true) := op2_r (op2_r (op2_v fun {F H x y} e r1 r2 => by
  obtain ⟨p, xs, rfl, s1, l1⟩ := sq_rp e r1
  obtain ⟨q', ys, rfl, s2, l2⟩ := sq_rp e r2
  exact ⟨.bl _, .bl _, fun Q q => ⟨p, q', xs, ys, rfl, rfl, s1, s2, by rw [l1, l2]; exact h, q⟩⟩))
theorem d_neD {a b : D} (ha : okEq a = true) (hb : okEq b = true) : Op2 K (gNe K) a b (.bl (!eqD a b)) := op2_r (op2_l (op2_v fun {F H x y} e r1 r2 => by
  unfold okEq at ha hb
  rw [Bool.and_eq_true] at ha hb
  exact ⟨.bl _, .bl _, fun Q q => ⟨toP a, toP b, rp_dp (r1.mono e) ha.1, rp_dp (r2.mono e) hb.1, ha.2, hb.2, q⟩⟩))
theorem d_eqI {i j : Int} : Op2 K (gEq K) (.int i) (.int j) (.bl (decide (i = j))) := op2_l (op2_v fun {F H x y} e r1 r2 => ⟨.bl (decide (i = j)), .bl _, fun Q q => by
  rw [rp_int r1, rp_int r2]
  refine ⟨rfl, ?_⟩
  have h : decide (V.int i = V.int j) = decide (i = j) := by
    by_cases z : i = j
    · rw [decide_eq_true z, decide_eq_true (by rw [z])]
    · rw [decide_eq_false z, decide_eq_false (fun q => z (V.int.inj q))]
  rw [h]
  exact q⟩)
theorem d_neI {i j : Int} : Op2 K (gNe K) (.int i) (.int j) (.bl (!decide (i = j))) := op2_l (op2_v fun {F H x y} e r1 r2 => ⟨.bl (!decide (i = j)), .bl _, fun Q q => by
  rw [rp_int r1, rp_int r2]
  refine ⟨rfl, ?_⟩
  have h : decide (V.int i = V.int j) = decide (i = j) := by
    by_cases z : i = j
    · rw [decide_eq_true z, decide_eq_true (by rw [z])]
    · rw [decide_eq_false z, decide_eq_false (fun q => z (V.int.inj q))]
  rw [h]
  exact q⟩)
theorem dec_vstr {i j : Str} : decide (V.str i = V.str j) = decide (i = j) := by
  by_cases z : i = j
  · rw [decide_eq_true z, decide_eq_true (by rw [z])]
  · rw [decide_eq_false z, decide_eq_false (fun q => z (V.str.inj q))]
theorem d_eqS {i j : Str} : Op2 K (gEq K) (.str i) (.str j) (.bl (decide (i = j))) := op2_l (op2_v fun {F H x y} e r1 r2 => ⟨.bl (decide (i = j)), .bl _, fun Q q => by
  rw [rp_str r1, rp_str r2]
  refine ⟨rfl, ?_⟩
  rw [dec_vstr]
  exact q⟩)
theorem d_neS {i j : Str} : Op2 K (gNe K) (.str i) (.str j) (.bl (!decide (i = j))) := op2_l (op2_v fun {F H x y} e r1 r2 => ⟨.bl (!decide (i = j)), .bl _, fun Q q => by
  rw [rp_str r1, rp_str r2]
  refine ⟨rfl, ?_⟩
  rw [dec_vstr]
  exact q⟩)
def isNon : D → Bool
  | .non => true
  | _ => false
theorem rp_isN {F : Hp} {v : V} {d : D} (h : Rp K F v d) : decide (v = .non) = isNon d := by
  cases h <;> rfl
theorem d_isN {d : D} : Op2 K gIs d .non (.bl (isNon d)) := op2_l (op2_v fun {F H x y} e r1 r2 => ⟨.bl (isNon d), .bl _, fun Q q => ⟨rp_non r2, by rw [rp_isN r1]; exact q⟩⟩)
theorem d_niN {d : D} : Op2 K gIn2 d .non (.bl (!isNon d)) := op2_l (op2_v fun {F H x y} e r1 r2 => ⟨.bl (!isNon d), .bl _, fun Q q => ⟨rp_non r2, by rw [rp_isN r1]; exact q⟩⟩)
theorem d_isB {a b : Bool} : Op2 K gIs (.bl a) (.bl b) (.bl (decide (a = b))) := op2_r (op2_v fun {F H x y} e r1 r2 => ⟨_, .bl _, fun Q q => ⟨a, b, rp_bl r1, rp_bl r2, q⟩⟩)
/-! items -/
theorem atI_rp {F : Hp} {vs : List V} {ds : List D} {i : Int} {d : D} (r : RpA K F vs ds) (h : atI ds i = some d) : ∃ v, atI vs i = some v ∧ Rp K F v d := by
  unfold atI at h ⊢
  rw [r.length]
  cases q : ixN ds.length i with
  | none =>
    rw [q] at h
    cases h
  | some j =>
    rw [q] at h
    exact r.get h
theorem d_ixL {i : Int} (h : atI l i = some d) : Op2 K (gIx K) (.lst l) (.int i) d := op2_v fun {F H x y} e r1 r2 => by
  cases r1 with
  | lst h1 s1 =>
    obtain ⟨v, h3, h4⟩ := atI_rp s1 h
    exact ⟨v, h4, fun Q q => Or.inl ⟨_, _, i, v, rfl, rp_int r2, sq_of (e _ _ h1), h3, q⟩⟩
theorem d_ixT {i : Int} (h : atI l i = some d) : Op2 K (gIx K) (.tup l) (.int i) d := op2_v fun {F H x y} e r1 r2 => by
  cases r1 with
  | tup h1 s1 =>
    obtain ⟨v, h3, h4⟩ := atI_rp s1 h
    exact ⟨v, h4, fun Q q => Or.inr (Or.inl ⟨_, _, i, v, rfl, rp_int r2, st_of (e _ _ h1), h3, q⟩)⟩
theorem d_ixR {ns : List Int} {i n : Int} (h : atI ns i = some n) : Op2 K (gIx K) (.scr ns) (.int i) (.int n) := op2_v fun {F H x y} e r1 r2 => by
  cases r1 with
  | scr h1 =>
    refine ⟨.int n, .int n, fun Q q => Or.inl ⟨_, _, i, .int n, rfl, rp_int r2, ex_l e h1, ?_, q⟩⟩
    unfold atI at h ⊢
    rw [List.length_map]
    cases z : ixN ns.length i with
    | none =>
      rw [z] at h
      cases h
    | some j =>
      rw [z] at h
      show (ns.map V.int)[j]? = _
      have h' : ns[j]? = some n := h
      rw [List.getElem?_map, h']
      rfl
theorem d_ixS {z : Str} {i : Int} {c : Nat} (hz : z.length ≤ 100000) (h : atI z.cps.toList i = some c) : Op2 K (gIx K) (.str z) (.int i) (.str ⟨#[c]⟩) := op2_v fun {F H x y} e r1 r2 => by
  refine ⟨.str ⟨#[c]⟩, .str _, fun Q q => Or.inr (Or.inr ?_)⟩
  exact ⟨z, i, c, rp_str r1, rp_int r2, sz_of hz, h, q⟩
theorem atI_getD {α : Type} {xs : List α} {i : Int} (e : α) (h0 : 0 ≤ i) (h1 : i < (xs.length : Int)) : atI xs i = some (xs.getD i.toNat e) := by
  obtain ⟨j, rfl⟩ : ∃ j : Nat, i = (j : Int) := ⟨i.toNat, by omega⟩
  refine atI_nat ?_
  rw [Int.toNat_natCast, List.getD_eq_getElem?_getD, List.getElem?_eq_getElem (by omega)]
  rfl
theorem d_ixLn {i : Int} (h0 : 0 ≤ i) (h1 : i < (l.length : Int)) : Op2 K (gIx K) (.lst l) (.int i) (l.getD i.toNat .non) := d_ixL (atI_getD _ h0 h1)
theorem d_ixTn {i : Int} (h0 : 0 ≤ i) (h1 : i < (l.length : Int)) : Op2 K (gIx K) (.tup l) (.int i) (l.getD i.toNat .non) := d_ixT (atI_getD _ h0 h1)
theorem d_ixRn {ns : List Int} {i : Int} (h0 : 0 ≤ i) (h1 : i < (ns.length : Int)) : Op2 K (gIx K) (.scr ns) (.int i) (.int (ns.getD i.toNat 0)) := d_ixR (atI_getD _ h0 h1)
theorem d_ixSn {z : Str} {i : Int} (hz : z.length ≤ 100000) (h0 : 0 ≤ i) (h1 : i < (z.cps.toList.length : Int)) : Op2 K (gIx K) (.str z) (.int i) (.str ⟨#[z.cps.toList.getD i.toNat 0]⟩) := d_ixS hz (atI_getD _ h0 h1)
theorem getD_mapD {α : Type} (f : α → D) (e : α) : ∀ (ns : List α) (i : Nat), i < ns.length → (ns.map f).getD i .non = f (ns.getD i e)
  | [], i, h => by simp at h
  | n :: ns, 0, _ => rfl
  | n :: ns, i + 1, h => by
    show (ns.map f).getD i .non = f (ns.getD i e)
    exact getD_mapD f e ns i (by simpa using h)
theorem d_ixI {ns : List Int} {i : Int} (h0 : 0 ≤ i) (h1 : i < (ns.length : Int)) : Op2 K (gIx K) (.lst (ns.map D.int)) (.int i) (.int (ns.getD i.toNat 0)) := by
  have h := d_ixLn (K := K) (l := ns.map D.int) (i := i) h0 (by rw [List.length_map]; exact h1)
  rw [getD_mapD D.int 0 ns _ (by omega)] at h
  exact h
theorem d_ixStr {ns : List Str} {i : Int} (h0 : 0 ≤ i) (h1 : i < (ns.length : Int)) : Op2 K (gIx K) (.lst (ns.map D.str)) (.int i) (.str (ns.getD i.toNat Str.empty)) := by
  have h := d_ixLn (K := K) (l := ns.map D.str) (i := i) h0 (by rw [List.length_map]; exact h1)
  rw [getD_mapD D.str Str.empty ns _ (by omega)] at h
  exact h
theorem getD_in {α : Type} (e : α) : ∀ (ns : List α) (i : Nat), i < ns.length → ns.getD i e ∈ ns
  | [], i, h => by simp at h
  | n :: ns, 0, _ => List.mem_cons_self
  | n :: ns, i + 1, h => List.mem_cons_of_mem _ (getD_in e ns i (by simpa using h))
/-! slices -/
def cutD (xs : List D) (lo hi : Option Int) : List D := (xs.drop (HT.sIx xs.length 0 lo)).take (HT.sIx xs.length xs.length hi - HT.sIx xs.length 0 lo)
theorem cutD_rp {F : Hp} {vs : List V} {ds : List D} (r : RpA K F vs ds) (lo hi : Option Int) : RpA K F (cutV vs lo hi) (cutD ds lo hi) := by
  unfold cutV cutD
  rw [r.length]
  exact (r.drop _).take _
theorem o_sl {tl th : TO} {lo hi : Option Int} (h : EvD K te G (.lst l)) (h1 : EvP K tl G lo) (h2 : EvP K th G hi) : EvO K (tSl (gSl K) te tl th) G (cutD l lo hi) := .mk fun {H0 F0 F H σ} E Q q =>
  h E _ fun v F1 H1 E1 f1 g1 n1 r1 => h1 E1 _ fun F2 H2 E2 f2 g2 n2 => h2 E2 _ fun F3 H3 E3 f3 g3 n3 => by
    cases r1 with
    | lst ha rs =>
      refine Or.inl ⟨_, _, rfl, sq_of (g3 _ _ (g2 _ _ (E1.ef _ _ ha))), fun p hp => ?_⟩
      exact q p _ F3 _ (E3.grow (Ex.refl _) (Ex.new hp) (E3.ef.trans (Ex.new hp)) (Nw.refl _ _)) ((f1.trans f2).trans f3) (((g1.trans g2).trans g3).trans (Ex.new hp)) ((n1.trans n2 g1).trans n3 (g1.trans g2))
        (ex_none ((g1.trans g2).trans g3) hp) (ex_none E3.ef hp) upd_same (cutD_rp (rs.mono (f2.trans f3)) lo hi)
theorem e_slS {tl th : TO} {z : Str} {lo hi : Option Int} (h : EvD K te G (.str z)) (h1 : EvP K tl G lo) (h2 : EvP K th G hi) (hz : z.length ≤ 100000) : EvD K (tSl (gSl K) te tl th) G (.str (cutS z lo hi)) := .mk fun {H0 F0 F H σ} E Q q =>
  h E _ fun v F1 H1 E1 f1 g1 n1 r1 => h1 E1 _ fun F2 H2 E2 f2 g2 n2 => h2 E2 _ fun F3 H3 E3 f3 g3 n3 => by
    cases r1
    exact Or.inr ⟨z, rfl, sz_of hz, q _ F3 H3 E3 ((f1.trans f2).trans f3) ((g1.trans g2).trans g3) ((n1.trans n2 g1).trans n3 (g1.trans g2)) (.str _)⟩
/-! calls of built-ins -/
theorem n_max2 {i j : Int} : OpN K (gMax K) [.int i, .int j] (.int (max i j)) := opn_l (op1_v fun {F H vs} e r => by
  obtain ⟨v, w, rfl, r1, r2⟩ := rpa2 r
  refine ⟨.int (max i j), .int _, fun Q q => ⟨i, j, by rw [rp_int r1, rp_int r2], ?_⟩⟩
  have h : (if j > i then j else i) = max i j := by
    by_cases z : j > i
    · rw [if_pos z]
      omega
    · rw [if_neg z]
      omega
  rw [h]
  exact q)
theorem n_min2 {i j : Int} : OpN K (gMin K) [.int i, .int j] (.int (min i j)) := opn_l (op1_v fun {F H vs} e r => by
  obtain ⟨v, w, rfl, r1, r2⟩ := rpa2 r
  refine ⟨.int (min i j), .int _, fun Q q => ⟨i, j, by rw [rp_int r1, rp_int r2], ?_⟩⟩
  have h : (if j < i then j else i) = min i j := by
    by_cases z : j < i
    · rw [if_pos z]
      omega
    · rw [if_neg z]
      omega
  rw [h]
  exact q)
theorem n_abs {i : Int} : OpN K rAbs [.int i] (.int (i.natAbs : Int)) := op1_v fun {F H vs} e r => by
  obtain ⟨v, rfl, r1⟩ := rpa1 r
  refine ⟨.int (i.natAbs : Int), .int _, fun Q q => ⟨i, by rw [rp_int r1], ?_⟩⟩
  have h : (if i < 0 then -i else i) = (i.natAbs : Int) := by
    by_cases z : i < 0
    · rw [if_pos z]
      omega
    · rw [if_neg z]
      omega
  rw [h]
  exact q
theorem n_lenL : OpN K (rLen K) [.lst l] (.int (l.length : Int)) := op1_v fun {F H vs} e r => by
  obtain ⟨v, rfl, r1⟩ := rpa1 r
  cases r1 with
  | lst h1 s1 => exact ⟨.int _, .int _, fun Q q => ⟨_, l.length, rfl, Or.inl ⟨_, sq_of (e _ _ h1), s1.length.symm⟩, q⟩⟩
theorem n_lenT : OpN K (rLen K) [.tup l] (.int (l.length : Int)) := op1_v fun {F H vs} e r => by
  obtain ⟨v, rfl, r1⟩ := rpa1 r
  cases r1 with
  | tup h1 s1 => exact ⟨.int _, .int _, fun Q q => ⟨_, l.length, rfl, Or.inr ⟨_, st_of (e _ _ h1), s1.length.symm⟩, q⟩⟩
theorem n_lenR {ns : List Int} : OpN K (rLen K) [.scr ns] (.int (ns.length : Int)) := op1_v fun {F H vs} e r => by
  obtain ⟨v, rfl, r1⟩ := rpa1 r
  cases r1 with
  | scr h1 => exact ⟨.int _, .int _, fun Q q => ⟨_, ns.length, rfl, Or.inl ⟨_, ex_l e h1, by rw [List.length_map]⟩, q⟩⟩
theorem n_lenS {z : Str} (hz : z.length ≤ 100000) : OpN K (rLen K) [.str z] (.int (z.length : Int)) := op1_v fun {F H vs} e r => by
  obtain ⟨v, rfl, r1⟩ := rpa1 r
  cases r1
  exact ⟨.int _, .int _, fun Q q => ⟨_, z.length, rfl, ⟨sz_of hz, rfl⟩, q⟩⟩
theorem n_intS {z : Str} {n : Int} (h : PySem.intText? z = some n) (hz : z.length ≤ 640) : OpN K gInt [.str z] (.int n) := opn_r (op1_v fun {F H vs} e r => by
  obtain ⟨v, rfl, r1⟩ := rpa1 r
  cases r1
  exact ⟨.int _, .int _, fun Q q => ⟨z, n, rfl, h, hz, q⟩⟩)
theorem n_strI {n : Int} (h : n.natAbs.log2 < 1920) : OpN K gStr [.int n] (.str (toString n)) := opn_l (op1_v fun {F H vs} e r => by
  obtain ⟨v, rfl, r1⟩ := rpa1 r
  cases r1
  exact ⟨.str _, .str _, fun Q q => ⟨n, rfl, h, q⟩⟩)
def reprB (b : Bool) : Str := if b then "True" else "False"
theorem n_reprB {b : Bool} : OpN K gRepr [.bl b] (.str (reprB b)) := opn_r (opn_l (op1_v fun {F H vs} e r => by
  obtain ⟨v, rfl, r1⟩ := rpa1 r
  cases r1
  refine ⟨.str (reprB b), .str _, fun Q q => ⟨b, rfl, ?_⟩⟩
  unfold reprB at q
  cases b <;> exact q))
theorem n_reprI {n : Int} (h : n.natAbs.log2 < 1920) : OpN K gRepr [.int n] (.str (toString n)) := opn_l (op1_v fun {F H vs} e r => by
  obtain ⟨v, rfl, r1⟩ := rpa1 r
  cases r1
  exact ⟨.str _, .str _, fun Q q => ⟨n, rfl, h, q⟩⟩)
theorem n_reprN : OpN K gRepr [.non] (.str "None") := opn_r (opn_r (opn_l (op1_v fun {F H vs} e r => by
  obtain ⟨v, rfl, r1⟩ := rpa1 r
  cases r1
  exact ⟨.str _, .str _, fun Q q => ⟨rfl, q⟩⟩)))
theorem n_reprS {z : Str} (h : (reprText z).length ≤ sizeLine) : OpN K gRepr [.str z] (.str (reprText z)) := opn_r (opn_r (opn_r (op1_v fun {F H vs} e r => by
  obtain ⟨v, rfl, r1⟩ := rpa1 r
  cases r1
  exact ⟨.str _, .str _, fun Q q => ⟨z, rfl, h, q⟩⟩)))
theorem n_listL : OpNO K (rListOf K) [.lst l] l := .mk fun {F H vs} e r Q q => by
  obtain ⟨v, rfl, r1⟩ := rpa1 r
  cases r1 with
  | lst h1 s1 => exact ⟨_, _, rfl, Or.inl (sq_of (e _ _ h1)), fun p hp => q p _ _ (Ex.new hp) hp upd_same s1⟩
theorem n_listT : OpNO K (rListOf K) [.tup l] l := .mk fun {F H vs} e r Q q => by
  obtain ⟨v, rfl, r1⟩ := rpa1 r
  cases r1 with
  | tup h1 s1 => exact ⟨_, _, rfl, Or.inr (st_of (e _ _ h1)), fun p hp => q p _ _ (Ex.new hp) hp upd_same s1⟩
theorem n_all {bs : List Bool} : OpN K (rAll K) [.lst (bs.map D.bl)] (.bl (bs.all id)) := op1_v fun {F H vs} e r => by
  obtain ⟨v, rfl, r1⟩ := rpa1 r
  cases r1 with
  | lst h1 s1 => exact ⟨.bl _, .bl _, fun Q q => ⟨_, bs, rfl, sq_of (e _ _ (by rw [h1, s1.bls])), q⟩⟩
theorem n_any {bs : List Bool} : OpN K (rAny K) [.lst (bs.map D.bl)] (.bl (bs.any id)) := op1_v fun {F H vs} e r => by
  obtain ⟨v, rfl, r1⟩ := rpa1 r
  cases r1 with
  | lst h1 s1 => exact ⟨.bl _, .bl _, fun Q q => ⟨_, bs, rfl, sq_of (e _ _ (by rw [h1, s1.bls])), q⟩⟩
/-- the greatest, the least of a list -/
theorem n_maxL {ns : List Int} {m : Int} (h0 : m ∈ ns) (h1 : ∀ y ∈ ns, y ≤ m) : OpN K (gMax K) [.lst (ns.map D.int)] (.int m) := opn_r (op1_v fun {F H vs} e r => by
  obtain ⟨v, rfl, r1⟩ := rpa1 r
  cases r1 with
  | lst h2 s1 =>
    refine ⟨.int m, .int _, fun Q q => ⟨_, ns, rfl, sq_of (e _ _ (by rw [h2, s1.ints])), List.length_pos_of_mem h0, fun m' hm' hy => ?_⟩⟩
    have e1 := h1 m' hm'
    have e2 := hy m h0
    have e3 : m' = m := by omega
    rw [e3]
    exact q)
theorem n_minL {ns : List Int} {m : Int} (h0 : m ∈ ns) (h1 : ∀ y ∈ ns, m ≤ y) : OpN K (gMin K) [.lst (ns.map D.int)] (.int m) := opn_r (op1_v fun {F H vs} e r => by
  obtain ⟨v, rfl, r1⟩ := rpa1 r
  cases r1 with
  | lst h2 s1 =>
    refine ⟨.int m, .int _, fun Q q => ⟨_, ns, rfl, sq_of (e _ _ (by rw [h2, s1.ints])), List.length_pos_of_mem h0, fun m' hm' hy => ?_⟩⟩
    have e1 := h1 m' hm'
    have e2 := hy m h0
    have e3 : m' = m := by omega
    rw [e3]
    exact q)
/-! isinstance -/
theorem ty_of {F : Hp} {v : V} {d : D} (h : Rp K F v d) (hn : noObj d = true) {H : Hp} (e : Ex F H) : TyX K H v (.type (kindD d)) := by
  cases h with
  | non => exact .base .non
  | bl b => exact .base (.bl b)
  | int i => exact .base (.int i)
  | str x => exact .base (.str x)
  | lst h1 _ => exact .base (.lst (e _ _ h1))
  | tup h1 _ => exact .base (.tup (e _ _ h1))
  | dic h1 _ _ => exact .base (.dK (e _ _ h1))
  | obj _ _ _ => cases hn
  | exc _ => cases hn
  | ptr _ => cases hn
  | scr h1 =>
    rcases ex_l e h1 with (h2 | ⟨o, h2⟩) | ⟨o, its, n, h2, h3, _⟩
    · exact .base (.lst h2)
    · exact .base (.frz h2)
    · exact .kList h2 h3
def isS : D → Bool
  | .str _ => true
  | _ => false
def isI : D → Bool
  | .int _ => true
  | .bl _ => true
  | _ => false
def isB : D → Bool
  | .bl _ => true
  | _ => false
def isL : D → Bool
  | .lst _ => true
  | .scr _ => true
  | _ => false
def isT : D → Bool
  | .tup _ => true
  | _ => false
theorem kit_str {x : D} (hn : noObj x = true) : kitB (kindD x) "str" = some (isS x) := by
  cases x with
  | non => exact (by decide +kernel : kitB "NoneType" "str" = some false)
  | bl _ => exact (by decide +kernel : kitB "bool" "str" = some false)
  | int _ => exact (by decide +kernel : kitB "int" "str" = some false)
  | str _ => exact (by decide +kernel : kitB "str" "str" = some true)
  | lst _ => exact (by decide +kernel : kitB "list" "str" = some false)
  | tup _ => exact (by decide +kernel : kitB "tuple" "str" = some false)
  | dic _ => exact (by decide +kernel : kitB "dict" "str" = some false)
  | obj _ _ => cases hn
  | exc _ => cases hn
  | ptr _ => cases hn
  | scr _ => exact (by decide +kernel : kitB "list" "str" = some false)
theorem kit_int {x : D} (hn : noObj x = true) : kitB (kindD x) "int" = some (isI x) := by
  cases x with
  | non => exact (by decide +kernel : kitB "NoneType" "int" = some false)
  | bl _ => exact (by decide +kernel : kitB "bool" "int" = some true)
  | int _ => exact (by decide +kernel : kitB "int" "int" = some true)
  | str _ => exact (by decide +kernel : kitB "str" "int" = some false)
  | lst _ => exact (by decide +kernel : kitB "list" "int" = some false)
  | tup _ => exact (by decide +kernel : kitB "tuple" "int" = some false)
  | dic _ => exact (by decide +kernel : kitB "dict" "int" = some false)
  | obj _ _ => cases hn
  | exc _ => cases hn
  | ptr _ => cases hn
  | scr _ => exact (by decide +kernel : kitB "list" "int" = some false)
theorem kit_bool {x : D} (hn : noObj x = true) : kitB (kindD x) "bool" = some (isB x) := by
  cases x with
  | non => exact (by decide +kernel : kitB "NoneType" "bool" = some false)
  | bl _ => exact (by decide +kernel : kitB "bool" "bool" = some true)
  | int _ => exact (by decide +kernel : kitB "int" "bool" = some false)
  | str _ => exact (by decide +kernel : kitB "str" "bool" = some false)
  | lst _ => exact (by decide +kernel : kitB "list" "bool" = some false)
  | tup _ => exact (by decide +kernel : kitB "tuple" "bool" = some false)
  | dic _ => exact (by decide +kernel : kitB "dict" "bool" = some false)
  | obj _ _ => cases hn
  | exc _ => cases hn
  | ptr _ => cases hn
  | scr _ => exact (by decide +kernel : kitB "list" "bool" = some false)
theorem kit_list {x : D} (hn : noObj x = true) : kitB (kindD x) "list" = some (isL x) := by
  cases x with
  | non => exact (by decide +kernel : kitB "NoneType" "list" = some false)
  | bl _ => exact (by decide +kernel : kitB "bool" "list" = some false)
  | int _ => exact (by decide +kernel : kitB "int" "list" = some false)
  | str _ => exact (by decide +kernel : kitB "str" "list" = some false)
  | lst _ => exact (by decide +kernel : kitB "list" "list" = some true)
  | tup _ => exact (by decide +kernel : kitB "tuple" "list" = some false)
  | dic _ => exact (by decide +kernel : kitB "dict" "list" = some false)
  | obj _ _ => cases hn
  | exc _ => cases hn
  | ptr _ => cases hn
  | scr _ => exact (by decide +kernel : kitB "list" "list" = some true)
theorem kit_tuple {x : D} (hn : noObj x = true) : kitB (kindD x) "tuple" = some (isT x) := by
  cases x with
  | non => exact (by decide +kernel : kitB "NoneType" "tuple" = some false)
  | bl _ => exact (by decide +kernel : kitB "bool" "tuple" = some false)
  | int _ => exact (by decide +kernel : kitB "int" "tuple" = some false)
  | str _ => exact (by decide +kernel : kitB "str" "tuple" = some false)
  | lst _ => exact (by decide +kernel : kitB "list" "tuple" = some false)
  | tup _ => exact (by decide +kernel : kitB "tuple" "tuple" = some true)
  | dic _ => exact (by decide +kernel : kitB "dict" "tuple" = some false)
  | obj _ _ => cases hn
  | exc _ => cases hn
  | ptr _ => cases hn
  | scr _ => exact (by decide +kernel : kitB "list" "tuple" = some false)
theorem e_isi {T : String} {b : Bool} (h : EvD K ta G d) (hn : noObj d = true) (hk : kitB (kindD d) T = some b) : EvD K (tCB (rIsi K) (tCons ta (tCons (tC (.ty T)) tNil))) G (.bl b) := .mk fun {H0 F0 F H σ} E Q q =>
  h E _ fun v F1 H1 E1 f1 g1 n1 r1 => ⟨v, .ty T, .type (kindD d), .type T, b, rfl, .ty T, ty_of r1 hn E1.ef, kit_ty hk, q _ F1 H1 E1 f1 g1 n1 (.bl _)⟩
theorem e_isS (h : EvD K ta G d) (hn : noObj d = true) : EvD K (tCB (rIsi K) (tCons ta (tCons (tC (.ty "str")) tNil))) G (.bl (isS d)) := e_isi h hn (kit_str hn)
theorem e_isI (h : EvD K ta G d) (hn : noObj d = true) : EvD K (tCB (rIsi K) (tCons ta (tCons (tC (.ty "int")) tNil))) G (.bl (isI d)) := e_isi h hn (kit_int hn)
theorem e_isB (h : EvD K ta G d) (hn : noObj d = true) : EvD K (tCB (rIsi K) (tCons ta (tCons (tC (.ty "bool")) tNil))) G (.bl (isB d)) := e_isi h hn (kit_bool hn)
theorem e_isL (h : EvD K ta G d) (hn : noObj d = true) : EvD K (tCB (rIsi K) (tCons ta (tCons (tC (.ty "list")) tNil))) G (.bl (isL d)) := e_isi h hn (kit_list hn)
theorem e_isT (h : EvD K ta G d) (hn : noObj d = true) : EvD K (tCB (rIsi K) (tCons ta (tCons (tC (.ty "tuple")) tNil))) G (.bl (isT d)) := e_isi h hn (kit_tuple hn)
/-- sep.join(list of texts) -/
def rJoin (K : PySem.W.Frag) : V → List V → Hp → VK → Prop := fun x xs H Q => ∃ a p, ∃ ys : List Str, x = .str a ∧ xs = [.ref p] ∧ (SqL K H p (ys.map V.str) ∨ SqT K H p (ys.map V.str)) ∧
      (ys.map (·.length)).sum + ys.length * a.length ≤ 16777216 ∧ Q (.str (Txt.join a ys)) H
theorem e_join {a : Str} {ys : List Str} (h : EvD K ta G (.str a)) (h2 : EvD K tb G (.lst (ys.map D.str))) (hz : (ys.map (·.length)).sum + ys.length * a.length ≤ 16777216) : EvD K (tM1 (rJoin K) ta tb) G (.str (Txt.join a ys)) := .mk fun {H0 F0 F H σ} E Q q =>
  h E _ fun v F1 H1 E1 f1 g1 n1 r1 => by
    cases r1
    refine ⟨⟨a, rfl⟩, h2 E1 _ fun w F2 H2 E2 f2 g2 n2 r2 => ?_⟩
    cases r2 with
    | lst h3 s3 => exact ⟨a, _, ys, rfl, rfl, Or.inl (sq_of (E2.ef _ _ (by rw [h3, s3.strs]))), hz, q _ F2 H2 E2 (f1.trans f2) (g1.trans g2) (n1.trans n2 g1) (.str _)⟩
/-- text.index(sign) -/
def rSIndex : V → List V → Hp → VK → Prop := fun x xs H Q => ∃ a b i rest, x = .str a ∧ xs = [.str b] ∧ Builtin.Str.occurrences a b 0 a.length 1 = i :: rest ∧ Q (.int (i : Nat)) H
theorem e_sindex {a b : Str} {i : Nat} {rest : List Nat} (h : EvD K ta G (.str a)) (h2 : EvD K tb G (.str b)) (ho : Builtin.Str.occurrences a b 0 a.length 1 = i :: rest) : EvD K (tM1 rSIndex ta tb) G (.int (i : Int)) := .mk fun {H0 F0 F H σ} E Q q =>
  h E _ fun v F1 H1 E1 f1 g1 n1 r1 => by
    cases r1
    refine ⟨⟨a, rfl⟩, h2 E1 _ fun w F2 H2 E2 f2 g2 n2 r2 => ?_⟩
    cases r2
    exact ⟨a, b, i, rest, rfl, rfl, ho, q _ F2 H2 E2 (f1.trans f2) (g1.trans g2) (n1.trans n2 g1) (.int _)⟩
/-- {} and a written dict of one pair of numbers -/
theorem e_dnew : EvD K tDNewK G (.dic []) := .mk fun {H0 F0 F H σ} E Q q => fun p hp => by
  have ef : Ex F (upd F p (.dK [])) := Ex.new (ex_none E.ef hp)
  exact q _ (upd F p (.dK [])) _ (E.grow ef (Ex.new hp) (ex_upd_both E.ef) (nw_upd hp (Nw.refl _ _))) ef (Ex.new hp) (nw_upd hp (Nw.refl _ _)) (.dic (es := []) upd_same rfl .nil)
theorem e_disp1 {a b : Int} : EvD K (tDisp [((tC (.int a)), (tC (.int b)))]) G (.dic [(Sum.inl a, .int b)]) := .mk fun {H0 F0 F H σ} E Q q => fun p hp => by
  refine ⟨upd_same, [(Sum.inl a, V.int b)], rfl, (by show 1 ≤ 15; decide), ?_⟩
  rw [upd_upd]
  have ef : Ex F (upd F p (.dK [(Sum.inl a, V.int b)])) := Ex.new (ex_none E.ef hp)
  exact q _ (upd F p (.dK [(Sum.inl a, V.int b)])) _ (E.grow ef (Ex.new hp) (ex_upd_both E.ef) (nw_upd hp (Nw.refl _ _))) ef (Ex.new hp) (nw_upd hp (Nw.refl _ _)) (.dic (es := [(Sum.inl a, .int b)]) upd_same rfl (.cons (.int b) .nil))
theorem op1_neg {i : Int} : Op1 K (rU fun i => .int (-i)) (.int i) (.int (-i)) := .mk fun {F H x} e r Q q => ⟨i, rp_int r, q _ F H (Ex.refl F) e (Ex.refl H) (Nw.refl F H) (.int _)⟩
/-- fields -/
theorem lookup_rp {F : Hp} {f : Str} {d : D} : ∀ {gs : List (Str × V)} {fs : List (Str × D)}, gs.map (fun p => p.1) = fs.map (fun p => p.1) → RpA K F (gs.map fun p => p.2) (fs.map fun p => p.2) → fs.lookup f = some d → ∃ v, gs.lookup f = some v ∧ Rp K F v d
  | [], [], _, _, h => by cases h
  | [], _ :: _, h, _, _ => by cases h
  | _ :: _, [], h, _, _ => by cases h
  | (a, v) :: gs, (b, e) :: fs, hn, r, h => by
    have hab : a = b := by
      have := congrArg List.head? hn
      simpa using this
    have hn' : gs.map (fun p => p.1) = fs.map (fun p => p.1) := by
      have := congrArg List.tail hn
      simpa using this
    subst hab
    have r' : RpA K F (v :: gs.map fun p => p.2) (e :: fs.map fun p => p.2) := r
    cases r' with
    | cons r1 r2 =>
      by_cases z : f == a
      · rw [List.lookup_cons, z] at h ⊢
        cases h
        exact ⟨v, rfl, r1⟩
      · have z' : (f == a) = false := by simpa using z
        rw [List.lookup_cons, z'] at h ⊢
        exact lookup_rp hn' r2 h
theorem e_fld {C : Addr} {fs : List (Str × D)} {f : Str} (h : EvD K ta G (.obj C fs)) (hc : Cls K C) (hn : NoAttr K C f) (hl : fs.lookup f = some d) : EvD K (tFld K ta f) G d := .mk fun {H0 F0 F H σ} E Q q =>
  h E _ fun v F1 H1 E1 f1 g1 n1 r1 => by
    cases r1 with
    | obj h1 h2 h3 =>
      obtain ⟨v, k1, k2⟩ := lookup_rp h2 h3 hl
      exact ⟨_, C, _, _, v, rfl, E1.ef _ _ h1, hc, hn, k1, q v F1 H1 E1 f1 g1 n1 k2⟩
end
end Cy

set_option Elab.async false
set_option linter.all false
set_option maxRecDepth 100000
set_option maxHeartbeats 2000000
namespace Cy
open PySem L2 Evl
section
variable {K : PySem.W.Frag} {G G1 G2 : List Sl} {ta tb te tx : TE} {t u tt : TT} {tu tw tz : TS} {a b c d : D} {o : Out} {g : TG}
theorem st_guard {x : Bool} (h : EvTt K t G x) (h1 : x = true → StD K tu G (.rt d)) (h2 : x = false → StD K tw G (.rt d)) : StD K (tSeq (tIfS t tu tNext) tw) G (.rt d) := by
  cases x with
  | true => exact st_stop (st_if h (fun _ => h1 rfl) (fun q => nomatch q)) (fun _ q => nomatch q)
  | false => exact st_seq (st_if h (fun q => nomatch q) (fun _ => st_next)) (h2 rfl)
theorem st_guardO {x : Bool} {l : List D} (h : EvTt K t G x) (h1 : x = true → StD K tu G (.ro l)) (h2 : x = false → StD K tw G (.ro l)) : StD K (tSeq (tIfS t tu tNext) tw) G (.ro l) := by
  cases x with
  | true => exact st_stop (st_if h (fun _ => h1 rfl) (fun q => nomatch q)) (fun _ q => nomatch q)
  | false => exact st_seq (st_if h (fun q => nomatch q) (fun _ => st_next)) (h2 rfl)
/-- a guard that never fires -/
theorem st_pass (h : EvTt K t G false) (h2 : StD K tw G o) : StD K (tSeq (tIfS t tu tNext) tw) G o := st_seq (st_if h (fun q => nomatch q) (fun _ => st_next)) h2
theorem getD_map_range (items : List D) : (List.range items.length).map (fun i => items.getD i .non) = items := by
  apply List.ext_getElem
  · rw [List.length_map, List.length_range]
  · intro i h1 h2
    rw [List.getElem_map, List.getElem_range, List.getD_eq_getElem?_getD, List.getElem?_eq_getElem h2]
    rfl
theorem lcD_items (items : List D) (f : D → Bool) (v : D → D) : lcD items.length (fun i => f (items.getD i .non)) (fun i => v (items.getD i .non)) = (items.filter f).map v := by
  unfold lcD
  conv => rhs; rw [← getD_map_range items]
  rw [List.filter_map, List.map_map]
  rfl
theorem getD_of {items : List D} {i : Nat} (h : i < items.length) : items.getD i .non = items[i] := by
  rw [List.getD_eq_getElem?_getD, List.getElem?_eq_getElem h]
  rfl
theorem o_lcF {wi : TI} {items : List D} {j : Nat} (f : D → Bool) (v : D → D) (hi : ItD K wi G items) (hz : items.length ≤ 40000)
    (hf : ∀ d, d ∈ items → EvTt K tt ((wipeG G [j]).set j (.dat d)) (f d)) (hv : ∀ d, d ∈ items → f d = true → EvD K te ((wipeG G [j]).set j (.dat d)) (v d)) :
    EvO K (tLc wi (gName j) tt te [j]) G ((items.filter f).map v) := by
  rw [← lcD_items items f v]
  refine o_lc _ _ (fun i => (wipeG G [j]).set j (.dat (items.getD i .non))) keeps1 hi hz (fun i d h => ?_) (fun i h => ?_) (fun i h hh => ?_)
  · have hl := (List.getElem?_eq_some_iff.mp h)
    obtain ⟨h1, h2⟩ := hl
    rw [getD_of h1, h2]
    exact g_name
  · skip
    rw [getD_of h]
    exact hf _ (List.getElem_mem h)
  · skip
    rw [getD_of h] at hh ⊢
    exact hv _ (List.getElem_mem h) hh
theorem filter_true {α : Type} (l : List α) : l.filter (fun _ => true) = l := List.filter_eq_self.mpr fun _ _ => rfl
theorem o_lcM {wi : TI} {items : List D} {j : Nat} (v : D → D) (hi : ItD K wi G items) (hz : items.length ≤ 40000)
    (hv : ∀ d, d ∈ items → EvD K te ((wipeG G [j]).set j (.dat d)) (v d)) : EvO K (tLc wi (gName j) tYes te [j]) G (items.map v) := by
  have h := o_lcF (K := K) (G := G) (te := te) (tt := tYes) (j := j) (fun _ => true) v hi hz (fun d hd => t_yes) (fun d hd _ => hv d hd)
  rw [filter_true] at h
  exact h
/-- two names -/
theorem o_lcM2 {wi : TI} {items : List D} {i j : Nat} (hij : i ≠ j) (v w x : D → D) (hi : ItD K wi G items) (hz : items.length ≤ 40000) (hp : ∀ d, d ∈ items → d = .tup [v d, w d])
    (hv : ∀ d, d ∈ items → EvD K te (((wipeG G [i, j]).set i (.dat (v d))).set j (.dat (w d))) (x d)) : EvO K (tLc wi (gTup K 2 (gCons (gName i) (gCons (gName j) gNil))) tYes te [i, j]) G (items.map x) := by
  have e : items.map x = lcD items.length (fun _ => true) (fun i => x (items.getD i .non)) := by
    have := lcD_items items (fun _ => true) x
    rw [this, filter_true]
  rw [e]
  refine o_lc _ _ (fun n => ((wipeG G [i, j]).set i (.dat (v (items.getD n .non)))).set j (.dat (w (items.getD n .non)))) (keeps2 hij) hi hz (fun n d h => ?_) (fun n h => t_yes) (fun n h _ => ?_)
  · obtain ⟨h1, h2⟩ := List.getElem?_eq_some_iff.mp h
    rw [getD_of h1, h2]
    have hm : d ∈ items := h2 ▸ List.getElem_mem h1
    have hd := hp d hm
    conv => arg 4; rw [hd]
    exact g_tup (gs_cons g_name (gs_cons g_name gs_nil)) rfl
  · skip
    rw [getD_of h]
    exact hv _ (List.getElem_mem h)
/-- x, y = e1, e2 -/
theorem st_par {i j : Nat} {ta : TA} (h : EvS K ta G [a, b]) : StD K (tPar i j ta) G (.nx ((G.set i (.dat a)).set j (.dat b))) := .mk fun {H0 F0 F H σ E} En p => h En _ fun vs F1 H1 E1 f1 g1 n1 r1 => by
  obtain ⟨v, w, rfl, r2, r3⟩ := rpa2 r1
  exact ⟨v, w, rfl, p _ F1 H1 ((E1.setD r2 i).setD r3 j) f1⟩
theorem st_retN : StD K tRetN G (.rt .non) := .mk fun {H0 F0 F H σ E} En p => p .non F H En.ro .non
/-- xs.clear() of an owned list -/
theorem st_clear {i : Nat} {l : List D} (h : G[i]? = some (.own (.lst l))) : StD K (tDrop (tBM0 K "list" rClear (tVar i))) G (.nx (G.set i (.own (.lst [])))) := .mk fun {H0 F0 F H σ E} En p => by
  unfold tDrop tBM0
  exact e_own h En fun q xs hq hH hF hr => ⟨Or.inl ⟨rfl, xs, sq_of hH⟩, q, xs, rfl, rfl, hH, p σ F _ (En.mut h hq (.lst .nil)) (Ex.refl F)⟩
end
end Cy
namespace Cy
open PySem L2 Evl
/-! data of small depth may be compared -/
def okD : Nat → D → Bool
  | _, .non => true
  | _, .bl _ => true
  | _, .int _ => true
  | _, .str s => PyData.strOk s
  | 0, _ => false
  | n + 1, .lst xs => xs.all (okD n)
  | n + 1, .tup xs => xs.all (okD n)
  | _, .scr _ => false
  | _, .dic _ => false
  | _, .obj _ _ => false
  | _, .exc _ => false
  | _, .ptr _ => false
theorem okD_all {n : Nat} (ih : ∀ d, okD n d = true → plain d = true ∧ (toP d).canLay0 = true ∧ (toP d).depth ≤ n) : ∀ xs : List D, xs.all (okD n) = true → plains xs = true ∧ PyData.canLayAll0 (toPs xs) = true ∧ PyData.depthAll (toPs xs) ≤ n
  | [], _ => ⟨by unfold plains; rfl, by unfold toPs PyData.canLayAll0; rfl, by unfold toPs PyData.depthAll; exact Nat.zero_le _⟩
  | x :: xs, h => by
    rw [List.all_cons, Bool.and_eq_true] at h
    obtain ⟨a, b, c⟩ := ih x h.1
    obtain ⟨a', b', c'⟩ := okD_all ih xs h.2
    refine ⟨by unfold plains; rw [a, a']; rfl, by unfold toPs PyData.canLayAll0; rw [b, b']; rfl, by unfold toPs PyData.depthAll; exact Nat.max_le.mpr ⟨c, c'⟩⟩
theorem okD_ok : ∀ (n : Nat) (d : D), okD n d = true → plain d = true ∧ (toP d).canLay0 = true ∧ (toP d).depth ≤ n := by
  intro n
  induction n with
  | zero =>
    intro d h
    cases d with
    | non => exact ⟨by unfold plain; rfl, by unfold toP PyData.canLay0; rfl, by unfold toP PyData.depth; exact Nat.zero_le _⟩
    | bl _ => exact ⟨by unfold plain; rfl, by unfold toP PyData.canLay0; rfl, by unfold toP PyData.depth; exact Nat.zero_le _⟩
    | int _ => exact ⟨by unfold plain; rfl, by unfold toP PyData.canLay0; rfl, by unfold toP PyData.depth; exact Nat.zero_le _⟩
    | str s => exact ⟨by unfold plain; rfl, by unfold toP PyData.canLay0; unfold okD at h; exact h, by unfold toP PyData.depth; exact Nat.zero_le _⟩
    | lst _ => unfold okD at h; cases h
    | tup _ => unfold okD at h; cases h
    | dic _ => unfold okD at h; cases h
    | obj _ _ => unfold okD at h; cases h
    | exc _ => unfold okD at h; cases h
    | ptr _ => unfold okD at h; cases h
    | scr _ => unfold okD at h; cases h
  | succ n ih =>
    intro d h
    cases d with
    | non => exact ⟨by unfold plain; rfl, by unfold toP PyData.canLay0; rfl, by unfold toP PyData.depth; exact Nat.zero_le _⟩
    | bl _ => exact ⟨by unfold plain; rfl, by unfold toP PyData.canLay0; rfl, by unfold toP PyData.depth; exact Nat.zero_le _⟩
    | int _ => exact ⟨by unfold plain; rfl, by unfold toP PyData.canLay0; rfl, by unfold toP PyData.depth; exact Nat.zero_le _⟩
    | str s => exact ⟨by unfold plain; rfl, by unfold toP PyData.canLay0; unfold okD at h; exact h, by unfold toP PyData.depth; exact Nat.zero_le _⟩
    | lst xs =>
      unfold okD at h
      obtain ⟨a, b, c⟩ := okD_all ih xs h
      exact ⟨by unfold plain; exact a, by unfold toP PyData.canLay0; exact b, by unfold toP PyData.depth; exact Nat.succ_le_succ c⟩
    | tup xs =>
      unfold okD at h
      obtain ⟨a, b, c⟩ := okD_all ih xs h
      exact ⟨by unfold plain; exact a, by unfold toP PyData.canLay0; exact b, by unfold toP PyData.depth; exact Nat.succ_le_succ c⟩
    | dic _ => unfold okD at h; cases h
    | obj _ _ => unfold okD at h; cases h
    | exc _ => unfold okD at h; cases h
    | ptr _ => unfold okD at h; cases h
    | scr _ => unfold okD at h; cases h
theorem ok_eq {n : Nat} {d : D} (h : okD n d = true) (hn : n ≤ 64) : okEq d = true := by
  obtain ⟨a, b, c⟩ := okD_ok n d h
  unfold okEq SeqAt.shaped
  rw [a, b, decide_eq_true (Nat.le_trans c hn)]
  rfl
end Cy

set_option Elab.async false
set_option linter.all false
set_option maxRecDepth 100000
set_option maxHeartbeats 2000000
namespace Cy
open PySem L2 Evl
/-! objects made, their fields set -/
def putD (f : Str) (d : D) : List (Str × D) → List (Str × D)
  | [] => [(f, d)]
  | (g, e) :: r => if g = f then (g, d) :: r else (g, e) :: putD f d r
theorem putF_putD {K : PySem.W.Frag} {F : Hp} {f : Str} {v : V} {d : D} (r : Rp K F v d) : ∀ {gs : List (Str × V)} {fs : List (Str × D)}, gs.map (fun p => p.1) = fs.map (fun p => p.1) → RpA K F (gs.map fun p => p.2) (fs.map fun p => p.2) →
    (putF f v gs).map (fun p => p.1) = (putD f d fs).map (fun p => p.1) ∧ RpA K F ((putF f v gs).map fun p => p.2) ((putD f d fs).map fun p => p.2)
  | [], [], _, _ => ⟨rfl, .cons r .nil⟩
  | [], _ :: _, h, _ => by cases h
  | _ :: _, [], h, _ => by cases h
  | (a, u) :: gs, (b, e) :: fs, hn, hr => by
    have hab : a = b := by
      have := congrArg List.head? hn
      simpa using this
    have hn' : gs.map (fun p => p.1) = fs.map (fun p => p.1) := by
      have := congrArg List.tail hn
      simpa using this
    subst hab
    have hr' : RpA K F (u :: gs.map fun p => p.2) (e :: fs.map fun p => p.2) := hr
    cases hr' with
    | cons r1 r2 =>
      obtain ⟨i1, i2⟩ := putF_putD r hn' r2
      unfold putF putD
      by_cases z : a = f
      · rw [if_pos z, if_pos z]
        exact ⟨by rw [List.map_cons, List.map_cons, hn'], .cons r r2⟩
      · rw [if_neg z, if_neg z]
        exact ⟨by rw [List.map_cons, List.map_cons, i1], .cons r1 i2⟩
section
variable {K : PySem.W.Frag} {G G1 G2 : List Sl} {ta tb te tx : TE} {t u tt : TT} {tu tw tz : TS} {a b c d : D} {o : Out} {g : TG}
theorem st_fld {i : Nat} {p C : Addr} {fs : List (Str × D)} {f : Str} (h : G[i]? = some (.own (.ins p C fs))) (he : EvD K te G d) (hc : Cls K C) (hn : NoAttr K C f) (hl : fs.length < 1000) :
    StD K (sFld K (tVar i) te f) G (.nx (G.set i (.own (.ins p C (putD f d fs))))) := .mk fun {H0 F0 F H σ E} En q => he En _ fun v F1 H1 E1 f1 g1 n1 r1 => by
  obtain ⟨p', o, a1, b1, c1, d1, r2⟩ := E1.own i _ h
  cases r2 with
  | ins hn1 hr1 =>
    refine ⟨_, a1, _, C, _, _, rfl, d1, hc, hn, ?_, ?_⟩
    · have := congrArg List.length hn1
      rw [List.length_map, List.length_map] at this
      rw [this]
      exact hl
    · obtain ⟨k1, k2⟩ := putF_putD (f := f) r1 hn1 hr1
      exact q σ F1 _ (E1.mut h a1 (.ins k1 k2)) f1
/-- the promise of an __init__ -/
def spI (K : PySem.W.Frag) (C : Addr) (R : List D → List (Str × D) → Prop) : Sp := fun vs H Q _ => ∃ F H1 x dx ws ds fs, vs = .ref x :: ws ∧ H = upd (upd H1 dx (.own x)) x (.ins C dx []) ∧ H1 x = none ∧ H1 dx = none ∧ dx ≠ x ∧ Ex F H1 ∧ RpA K F ws ds ∧ R ds fs ∧
  ∀ gs dx' F' H', Ro H1 F F' H' → F' x = none → H' x = some (.ins C dx' gs) → gs.map (fun p => p.1) = fs.map (fun p => p.1) → RpA K F' (gs.map fun p => p.2) (fs.map fun p => p.2) → Q .non H'
theorem spI_len {C : Addr} {R : List D → List (Str × D) → Prop} {vs : List V} {H : Hp} {Q : VK} {E : XK} {n : Nat} (hR : ∀ ds d, R ds d → ds.length = n) (h : spI K C R vs H Q E) : vs.length = n + 1 := by
  obtain ⟨F, H1, x, dx, ws, ds, fs, rfl, _, _, _, _, _, r, h1, _⟩ := h
  rw [List.length_cons, r.length, hR ds fs h1]
theorem e_make {C : Addr} {R : List D → List (Str × D) → Prop} {E : XK} {ta : TA} {ds : List D} {fs : List (Str × D)} (h : EvS K ta G ds) (hR : R ds fs) : EvD K (tMake C (spI K C R) [] E ta) G (.obj C fs) := .mk fun {H0 F0 F H σ} En Q q =>
  h En _ fun vs F1 H1 E1 f1 g1 n1 r1 => fun x dx hx hdx hne => by
    refine ⟨F1, H1, x, dx, vs ++ [], ds, fs, rfl, rfl, hx, hdx, hne, E1.ef, by rw [List.append_nil]; exact r1, hR, fun gs dx' F' H' ro hF hH hn hr => ⟨rfl, ?_⟩⟩
    have ef : Ex F' (upd F' x (.ins C dx' gs)) := Ex.new hF
    have nw : Nw F1 (upd F' x (.ins C dx' gs)) H1 := nw_upd hx ro.nf
    refine q (.ref x) (upd F' x (.ins C dx' gs)) H' (E1.grow (ro.e1.trans ef) ro.e0 (fun z o y => ?_) nw) ((f1.trans ro.e1).trans ef) (g1.trans ro.e0) (n1.trans nw g1) (.obj upd_same hn (hr.mono ef))
    by_cases hz : z = x
    · subst hz
      rw [upd_same] at y
      cases y
      exact hH
    · rw [upd_ne hz] at y
      exact ro.ef z o y
def argsI (n : Nat) (x C : Addr) (ds : List D) : List Sl := .own (.ins x C []) :: args (n - 1) ds
theorem body_I {N : List Str} {C : Addr} {R : List D → List (Str × D) → Prop} {vs : List V} {H : Hp} {Q : VK} {E : XK} {t : TS} (h : spI K C R vs H Q E) (hn : ∀ ds d, R ds d → ds.length + 1 ≤ N.length)
    (hb : ∀ x ds fs, R ds fs → ∃ G, G[0]? = some (.own (.ins x C fs)) ∧ StD K t (argsI N.length x C ds) (.nx G)) : t { nx := fun _ H' => Q .non H', rt := Q } (start N vs) H := by
  obtain ⟨F, H1, x, dx, ws, ds, fs, rfl, rfl, hx, hdx, hne, e, r, hR, q⟩ := h
  obtain ⟨G, hG, hs⟩ := hb x ds fs hR
  have hl := hn ds fs hR
  have eH : Ex H1 (upd (upd H1 dx (.own x)) x (.ins C dx [])) := fun z o y => by
    have h1 : z ≠ x := ne_of_none y hx
    have h2 : z ≠ dx := ne_of_none y hdx
    rw [upd_ne h1, upd_ne h2]
    exact y
  have hstart : start N (.ref x :: ws) = some (.ref x) :: start (N.drop 1) ws := by
    have h1 : ∀ (N : List Str) (vs : List V), start N vs = vs.map some ++ List.replicate (N.length - vs.length) none := fun N vs => by
      first | rfl | (unfold start; rfl)
    rw [h1, h1]
    show some (V.ref x) :: (ws.map some ++ List.replicate (N.length - (ws.length + 1)) none) = some (V.ref x) :: (ws.map some ++ List.replicate ((N.drop 1).length - ws.length) none)
    rw [List.length_drop]
    congr 3
    omega
  rw [hstart]
  have base := start_en (K := K) (N := N.drop 1) e r (by rw [List.length_drop]; omega)
  have E1 : En K H1 F F (upd (upd H1 dx (.own x)) x (.ins C dx [])) (some (.ref x) :: start (N.drop 1) ws) (argsI N.length x C ds) := by
    have hlen : (N.drop 1).length = N.length - 1 := List.length_drop
    unfold argsI
    rw [← hlen]
    refine ⟨fun i d h => ?_, fun i w h => ?_, fun i j li lj p hij h1 h2 h3 => ?_, eH, e.trans eH, Ex.refl F, fun a o h => .inl h, ?_⟩
    · cases i with
      | zero => cases h
      | succ i => exact base.dat i d (by simpa using h)
    · cases i with
      | zero =>
        simp at h
        subst h
        exact ⟨x, _, rfl, ex_none e hx, hx, upd_same, .ins rfl .nil⟩
      | succ i =>
        obtain ⟨p, o, a1, b1, c1, d1, r1⟩ := base.own i w (by simpa using h)
        rw [c1] at d1
        cases d1
    · cases i with
      | zero =>
        cases j with
        | zero => exact absurd rfl hij
        | succ j =>
          obtain ⟨p2, o, a1, b1, c1, d1, r1⟩ := base.own j lj (by simpa using h2)
          rw [c1] at d1
          cases d1
      | succ i =>
        obtain ⟨p2, o, a1, b1, c1, d1, r1⟩ := base.own i li (by simpa using h1)
        rw [c1] at d1
        cases d1
    · rw [List.length_cons, List.length_cons, base.len]
  refine hs E1 fun σ' F' H' E' f' => ?_
  obtain ⟨p, o, a1, b1, c1, d1, r1⟩ := E'.own 0 _ hG
  cases r1 with
  | ins hn1 hr1 =>
    exact q _ _ F' H' E'.ro b1 d1 hn1 hr1
/-! a method of an object that stays as it is -/
theorem lookup_none {f : Str} : ∀ {gs : List (Str × V)} {fs : List (Str × D)}, gs.map (fun p => p.1) = fs.map (fun p => p.1) → fs.lookup f = none → gs.lookup f = none
  | [], [], _, _ => rfl
  | [], _ :: _, h, _ => by cases h
  | _ :: _, [], h, _ => by cases h
  | (a, u) :: gs, (b, e) :: fs, hn, h => by
    have hab : a = b := by
      have := congrArg List.head? hn
      simpa using this
    have hn' : gs.map (fun p => p.1) = fs.map (fun p => p.1) := by
      have := congrArg List.tail hn
      simpa using this
    subst hab
    by_cases z : f == a
    · rw [List.lookup_cons, z] at h
      cases h
    · have z' : (f == a) = false := by simpa using z
      rw [List.lookup_cons, z'] at h ⊢
      exact lookup_none hn' h
theorem e_meth {C : Addr} {fs : List (Str × D)} {m : Str} {R : List D → D → Prop} {E : XK} {ta : TE} {tr : TA} {ds : List D} (h : EvD K ta G (.obj C fs)) (hm : fs.lookup m = none) (hr : EvS K tr G ds) (hR : R (.obj C fs :: ds) d) :
    EvD K (tMeth C m (spD K R) [] E ta tr) G d := .mk fun {H0 F0 F H σ} En Q q => h En _ fun v F1 H1 E1 f1 g1 n1 r1 => by
  have r1' := r1
  cases r1' with
  | obj h1 h2 h3 =>
    refine ⟨_, _, _, rfl, E1.ef _ _ h1, lookup_none h2 hm, hr E1 _ fun vs F2 H2 E2 f2 g2 n2 r2 => ?_⟩
    refine ⟨F2, .obj C fs :: ds, d, E2.ef, by rw [List.append_nil]; exact .cons (r1.mono f2) r2, hR, fun w F3 H3 ro r3 => ?_⟩
    exact q w F3 H3 (E2.grow ro.e1 ro.e0 ro.ef ro.nf) ((f1.trans f2).trans ro.e1) ((g1.trans g2).trans ro.e0) ((n1.trans n2 g1).trans ro.nf (g1.trans g2)) r3
/-! an owned list is shown for a moment: nothing of it stays -/
mutual
def noLst : D → Bool
  | .lst _ => false
  | .tup xs => noLsts xs
  | .dic _ => false
  | .obj _ fs => noLstF fs
  | .exc _ => false
  | .scr _ => false
  | _ => true
def noLsts : List D → Bool
  | [] => true
  | x :: xs => noLst x && noLsts xs
def noLstF : List (Str × D) → Bool
  | [] => true
  | (_, x) :: fs => noLst x && noLstF fs
end
theorem noLstF_map : ∀ fs : List (Str × D), noLstF fs = noLsts (fs.map fun p => p.2)
  | [] => by
    unfold noLstF
    rw [List.map_nil]
    unfold noLsts
    rfl
  | (s, x) :: fs => by
    unfold noLstF
    rw [List.map_cons]
    unfold noLsts
    rw [noLstF_map fs]
def hid (F : Hp) (p : Addr) : Hp := fun a => if a = p then none else F a
theorem hid_ne {F : Hp} {p a : Addr} (h : a ≠ p) : hid F p a = F a := if_neg h
mutual
theorem Rp.hid {F : Hp} {p : Addr} {xs : List V} (hp : F p = some (.lst xs)) : ∀ {v : V} {d : D}, Rp K F v d → noLst d = true → Rp K (hid F p) v d
  | _, _, .non, _ => .non
  | _, _, .bl b, _ => .bl b
  | _, _, .int i, _ => .int i
  | _, _, .str x, _ => .str x
  | _, .tup ds, .tup h r, q => .tup (by
      rw [hid_ne (fun z => by subst z; rw [hp] at h; cases h)]
      exact h) (RpA.hid hp r (by unfold noLst at q; exact q))
  | _, .lst _, .lst _ _, q => by unfold noLst at q; cases q
  | _, .dic _, .dic _ _ _, q => by unfold noLst at q; cases q
  | _, .obj C fs, .obj h1 h2 r, q => .obj (by
      rw [hid_ne (fun z => by subst z; rw [hp] at h1; cases h1)]
      exact h1) h2 (RpA.hid hp r (by unfold noLst at q; rw [noLstF_map] at q; exact q))
  | _, .exc _, .exc _, q => by unfold noLst at q; cases q
  | _, .ptr _, .ptr a, _ => .ptr a
  | _, .scr _, .scr _, q => by unfold noLst at q; cases q
theorem RpA.hid {F : Hp} {p : Addr} {xs : List V} (hp : F p = some (.lst xs)) : ∀ {vs : List V} {ds : List D}, RpA K F vs ds → noLsts ds = true → RpA K (hid F p) vs ds
  | _, _, .nil, _ => .nil
  | _, d :: ds, .cons r t, q => by
    unfold noLsts at q
    rw [Bool.and_eq_true] at q
    exact .cons (Rp.hid hp r q.1) (RpA.hid hp t q.2)
end
theorem En.freezeL {H0 F0 F H : Hp} {σ : L2.St} (E : Cy.En K H0 F0 F H σ G) {i : Nat} {l : List D} (h : G[i]? = some (.own (.lst l))) : ∃ p xs, F p = none ∧ H p = some (.lst xs) ∧ Cy.En K H0 F0 (upd F p (.lst xs)) H σ (G.set i (.dat (.lst l))) := by
  obtain ⟨p, o, a, b, c, d, r⟩ := E.own i _ h
  cases r with
  | lst r =>
    rename_i xs
    refine ⟨p, xs, b, d, ?_⟩
    have ef : Ex F (upd F p (.lst xs)) := Ex.new b
    have hl : i < G.length := (List.getElem?_eq_some_iff.mp h).1
    refine ⟨fun j e q => ?_, fun j m q => ?_, fun x y lx ly p'' hxy h1 h2 h3 => ?_, E.e0, fun z o q => ?_, E.e1.trans ef, fun z o q => ?_, by rw [List.length_set, E.len]⟩
    · by_cases hij : i = j
      · subst hij
        rw [List.getElem?_set_self hl] at q
        cases q
        exact ⟨_, a, .lst upd_same (r.mono ef)⟩
      · rw [List.getElem?_set_ne hij] at q
        obtain ⟨v, q1, q2⟩ := E.dat j e q
        exact ⟨v, q1, q2.mono ef⟩
    · by_cases hij : i = j
      · subst hij
        rw [List.getElem?_set_self hl] at q
        cases q
      · rw [List.getElem?_set_ne hij] at q
        obtain ⟨p2, xs2, a2, b2, c2, d2, r2⟩ := E.own j m q
        have hne : p2 ≠ p := fun z => by
          subst z
          exact E.dis i j _ m p2 hij h q a a2
        exact ⟨p2, xs2, a2, by rw [upd_ne hne]; exact b2, c2, d2, r2.mono ef⟩
    · have nx : i ≠ x := fun z => by
        subst z
        rw [List.getElem?_set_self hl] at h1
        cases h1
      have ny : i ≠ y := fun z => by
        subst z
        rw [List.getElem?_set_self hl] at h2
        cases h2
      rw [List.getElem?_set_ne nx] at h1
      rw [List.getElem?_set_ne ny] at h2
      exact E.dis x y lx ly p'' hxy h1 h2 h3
    · by_cases hz : z = p
      · subst hz
        rw [upd_same] at q
        cases q
        exact d
      · rw [upd_ne hz] at q
        exact E.ef z o q
    · by_cases hz : z = p
      · subst hz
        exact .inr c
      · rw [upd_ne hz] at q
        exact E.nf z o q
theorem e_look {i : Nat} {l : List D} (h : G[i]? = some (.own (.lst l))) (hv : EvD K te (G.set i (.dat (.lst l))) d) (hd : noLst d = true) : EvD K te G d := .mk fun {H0 F0 F H σ} E Q q => by
  obtain ⟨p, xs, hF, hH, E1⟩ := E.freezeL h
  refine hv E1 Q fun v F2 H2 E2 f2 g2 n2 r2 => ?_
  have hp2 : F2 p = some (.lst xs) := f2 _ _ upd_same
  have k1 : Ex F (hid F2 p) := fun a o y => by
    have hne : a ≠ p := fun z => by
      subst z
      rw [hF] at y
      cases y
    rw [hid_ne hne]
    exact f2 a o (by rw [upd_ne hne]; exact y)
  have k2 : Ex (hid F2 p) H2 := fun a o y => by
    by_cases hne : a = p
    · subst hne
      unfold hid at y
      rw [if_pos rfl] at y
      cases y
    · rw [hid_ne hne] at y
      exact E2.ef a o y
  have k3 : Nw F (hid F2 p) H := fun a o y => by
    by_cases hne : a = p
    · subst hne
      unfold hid at y
      rw [if_pos rfl] at y
      cases y
    · rw [hid_ne hne] at y
      rcases n2 a o y with z | z
      · rw [upd_ne hne] at z
        exact .inl z
      · exact .inr z
  exact q v (hid F2 p) H2 (E.grow k1 g2 k2 k3) k1 g2 k3 (Rp.hid hp2 r2 hd)
/-- x.append(y.pop(j)) -/
theorem st_appPop {i k : Nat} {l m : List D} {j : Nat} (hik : i ≠ k) (h1 : G[i]? = some (.own (.lst l))) (h2 : G[k]? = some (.own (.lst m))) (he : EvD K tx G (.int (j : Int))) (hj : m[j]? = some d) (hz : l.length < 100000) (hm : m.length < 100000) :
    StD K (tDrop (tBM K "list" rAppend (tVar i) (tCons (tBM K "list" rPopAt (tVar k) (tCons tx tNil)) tNil))) G (.nx ((G.set k (.own (.lst (m.eraseIdx j)))).set i (.own (.lst (l ++ [d]))))) := .mk fun {H0 F0 F H σ E} En p => by
  unfold tDrop tBM
  refine e_own h1 En fun q xs hq hH hF hr => ⟨Or.inl ⟨rfl, xs, sq_of hH⟩, ?_⟩
  unfold tCons
  refine e_own h2 En fun q2 ys hq2 hH2 hF2 hr2 => ⟨Or.inl ⟨rfl, ys, sq_of hH2⟩, ?_⟩
  refine he En _ fun w F1 H1 E1 f1 g1 n1 r1 => ?_
  cases r1
  show rPopAt _ _ _ _
  obtain ⟨y, hy, ry⟩ := hr2.get hj
  have hjl : j < ys.length := (List.getElem?_eq_some_iff.mp hy).1
  have hlen := hr2.length
  have hne : q ≠ q2 := fun z => by
    subst z
    exact En.dis i k _ _ q hik h1 h2 hq hq2
  have hseq : seqIndex? (j : Int) ys.length = some j := by
    unfold seqIndex?
    simp
    omega
  refine ⟨q2, ys, (j : Int), j, y, rfl, rfl, g1 _ _ hH2, by omega, by omega, hseq, hy, ?_⟩
  have E2 := E1.mut h2 hq2 (.lst ((hr2.mono f1).erase j))
  have h1' : (G.set k (.own (.lst (m.eraseIdx j))))[i]? = some (.own (.lst l)) := by
    rw [List.getElem?_set_ne (fun z => hik z.symm)]
    exact h1
  refine ⟨q, xs, y, rfl, rfl, by rw [upd_ne hne]; exact g1 _ _ hH, sz_lt (by rw [hr.length]; exact hz), ?_⟩
  exact p σ F1 _ (E2.mut h1' hq (.lst ((hr.mono f1).app (.cons (ry.mono f1) .nil)))) f1
/-- tuple(list) -/
def rTupOf (K : PySem.W.Frag) : List V → Hp → VK → Prop := fun xs H Q => ∃ p ys, xs = [.ref p] ∧ ((SqL K H p ys ∧ ∀ l, H l = none → Q (.ref l) (upd H l (.tup ys))) ∨ (SqT K H p ys ∧ Q (.ref p) H))
theorem call_gTuple {X : Cx} : CallR X (.type "tuple") (rTupOf X.K) := call_tuple_of
theorem n_tupL {l : List D} : OpN K (rTupOf K) [.lst l] (.tup l) := .mk fun {F H vs} e r Q q => by
  obtain ⟨v, rfl, r1⟩ := rpa1 r
  cases r1 with
  | lst h1 s1 =>
    rename_i xs
    refine ⟨_, _, rfl, Or.inl ⟨sq_of (e _ _ h1), fun p hp => ?_⟩⟩
    have ef : Ex F (upd F p (.tup xs)) := Ex.new (ex_none e hp)
    exact q _ (upd F p (.tup xs)) _ ef (ex_upd_both e) (Ex.new hp) (nw_upd hp (Nw.refl _ _)) (.tup upd_same (s1.mono ef))
/-- list(range(a, b)) -/
theorem rg_1 {n : Int} (h : EvD K ta G (.int n)) : RgD K (tRg1 ta) G 0 n := .mk fun {H0 F0 F H σ} E Q q => h E _ fun v F1 H1 E1 f1 g1 n1 r1 => by
  cases r1
  exact ⟨n, rfl, q F1 H1 E1 f1 g1 n1⟩
theorem rg_2 {a b : Int} (h1 : EvD K ta G (.int a)) (h2 : EvD K tb G (.int b)) : RgD K (tRg2 ta tb) G a b := .mk fun {H0 F0 F H σ} E Q q => h1 E _ fun v F1 H1 E1 f1 g1 n1 r1 => h2 E1 _ fun w F2 H2 E2 f2 g2 n2 r2 => by
  cases r1
  cases r2
  exact ⟨a, b, rfl, rfl, q F2 H2 E2 (f1.trans f2) (g1.trans g2) (n1.trans n2 g1)⟩
theorem o_listRg {tr : L2.St → Hp → (Int → Int → Hp → Prop) → Prop} {a b : Int} (h : RgD K tr G a b) (hn : RgOk a b) : EvO K (tLstRg tr) G (rngD a (b - a).toNat) := .mk fun {H0 F0 F H σ} E Q q => h E _ fun F1 H1 E1 f1 g1 n1 => ⟨hn, fun p hp => by
  have hr : RpA K F1 (rgV a b) (rngD a (b - a).toNat) := by
    unfold rgV rngD
    have : ∀ l : List Nat, RpA K F1 (l.map fun (i : Nat) => V.int (a + (i : Nat))) (l.map fun (i : Nat) => D.int (a + (i : Int))) := by
      intro l
      induction l with
      | nil => exact .nil
      | cons x l ih => exact .cons (.int _) ih
    exact this _
  exact q p _ F1 _ (E1.grow (Ex.refl _) (Ex.new hp) (E1.ef.trans (Ex.new hp)) (Nw.refl _ _)) f1 (g1.trans (Ex.new hp)) n1 (ex_none g1 hp) (ex_none E1.ef hp) upd_same hr⟩
/-- xs[::-1] -/
theorem o_revL {l : List D} (h : EvD K te G (.lst l)) : EvO K (tRevL K te) G l.reverse := .mk fun {H0 F0 F H σ} E Q q => h E _ fun v F1 H1 E1 f1 g1 n1 r1 => by
  cases r1 with
  | lst h1 s1 => exact ⟨_, _, rfl, sq_of (E1.ef _ _ h1), fun p hp => q p _ F1 _ (E1.grow (Ex.refl _) (Ex.new hp) (E1.ef.trans (Ex.new hp)) (Nw.refl _ _)) f1 (g1.trans (Ex.new hp)) n1 (ex_none g1 hp) (ex_none E1.ef hp) upd_same s1.rev⟩
theorem n_intB {x : Bool} : OpN K gInt [.bl x] (.int (if x then 1 else 0)) := opn_l (op1_v fun {F H vs} e r => by
  obtain ⟨v, rfl, r1⟩ := rpa1 r
  cases r1
  exact ⟨.int _, .int _, fun Q q => Or.inr ⟨x, rfl, q⟩⟩)
/-- two lists handed back in a tuple -/
theorem st_ret2 {i j : Nat} {l m : List D} (hij : i ≠ j) (h1 : G[i]? = some (.own (.lst l))) (h2 : G[j]? = some (.own (.lst m))) : StD K (tRet (tTup (tCons (tVar i) (tCons (tVar j) tNil)))) G (.ro2 l m) := .mk fun {H0 F0 F H σ E} En p => by
  obtain ⟨q1, o1, a1, b1, c1, d1, r1⟩ := En.own i _ h1
  obtain ⟨q2, o2, a2, b2, c2, d2, r2⟩ := En.own j _ h2
  cases r1 with
  | lst r1 =>
    cases r2 with
    | lst r2 =>
      have hne : q1 ≠ q2 := fun z => by
        subst z
        exact En.dis i j _ _ q1 hij h1 h2 a1 a2
      refine ⟨_, a1, _, a2, (by show 2 ≤ sizeLine; decide), fun t ht => ?_⟩
      have en : Ex H (upd H t (.tup [.ref q1, .ref q2])) := Ex.new ht
      exact p t q1 _ q2 _ F _ ⟨En.e0.trans en, En.ef.trans en, En.e1, En.nf⟩ upd_same hne c1 b1 (en _ _ d1) r1 c2 b2 (en _ _ d2) r2
def spO2 (K : PySem.W.Frag) (R : List D → List D → List D → Prop) : Sp := fun vs H Q _ => ∃ F ds l m, Ex F H ∧ RpA K F vs ds ∧ R ds l m ∧ ∀ t p xs q ys F' H', Ro H F F' H' → H' t = some (.tup [.ref p, .ref q]) → p ≠ q → H p = none → F' p = none → H' p = some (.lst xs) → RpA K F' xs l → H q = none → F' q = none → H' q = some (.lst ys) → RpA K F' ys m → Q (.ref t) H'
theorem spO2_len {R : List D → List D → List D → Prop} {vs : List V} {H : Hp} {Q : VK} {E : XK} {n : Nat} (hR : ∀ ds l m, R ds l m → ds.length = n) (h : spO2 K R vs H Q E) : vs.length = n := by
  obtain ⟨F, ds, l, m, e, r, h1, _⟩ := h
  rw [r.length]
  exact hR ds l m h1
theorem body_O2 {N : List Str} {R : List D → List D → List D → Prop} {vs : List V} {H : Hp} {Q : VK} {E : XK} {t : TS} (h : spO2 K R vs H Q E) (hn : ∀ ds l m, R ds l m → ds.length ≤ N.length)
    (hb : ∀ ds l m, R ds l m → StD K t (args N.length ds) (.ro2 l m)) : t { nx := fun _ H' => Q .non H', rt := Q } (start N vs) H := by
  obtain ⟨F, ds, l, m, e, r, hR, q⟩ := h
  exact hb ds l m hR (start_en e r (hn ds l m hR)) q
/-- x, y = f(..) of such -/
theorem st_asg2 {i j : Nat} {R : List D → List D → List D → Prop} {E : XK} {ta : TA} {ds l m : List D} (hij : i ≠ j) (h : EvS K ta G ds) (hR : R ds l m) : StD K (tAsg (tCall (spO2 K R) [] E ta) (gTup K 2 (gCons (gName i) (gCons (gName j) gNil)))) G (.nx ((G.set i (.own (.lst l))).set j (.own (.lst m)))) := .mk fun {H0 F0 F H σ Ed} En p =>
  h En _ fun vs F1 H1 E1 f1 g1 n1 r1 => by
    refine ⟨F1, ds, l, m, E1.ef, by rw [List.append_nil]; exact r1, hR, fun t p1 xs q1 ys F2 H2 ro ht hne hp0 hpF hpH rx hq0 hqF hqH ry => ?_⟩
    have E2 := E1.grow ro.e1 ro.e0 ro.ef ro.nf
    refine ⟨t, _, rfl, Or.inl (Or.inl ht), rfl, _, _, rfl, _, _, rfl, rfl, ?_⟩
    have nslot : ∀ (a : Addr), H1 a = none → ∀ (k : Nat) (lk : Ow), G[k]? = some (.own lk) → σ[k]? ≠ some (some (.ref a)) := fun a ha k lk hk hs => by
      obtain ⟨p2, o2, a2, b2, c2, d2, r2⟩ := E1.own k lk hk
      rw [a2] at hs
      cases hs
      rw [ha] at d2
      cases d2
    have E3 := E2.setO (i := i) hpF (ex_none E1.e0 hp0) hpH (.lst rx) (fun k lk hk _ => nslot p1 hp0 k lk hk)
    have E4 := E3.setO (i := j) hqF (ex_none E1.e0 hq0) hqH (.lst ry) (fun k lk hk hjk => by
      by_cases hik : i = k
      · subst hik
        intro hs
        have hl : i < σ.length := by
          have := (List.getElem?_eq_some_iff.mp hs).1
          rw [List.length_set] at this
          exact this
        rw [List.getElem?_set_self hl] at hs
        cases hs
        exact hne rfl
      · rw [List.getElem?_set_ne hik] at hk ⊢
        exact nslot q1 hq0 k lk hk)
    exact p _ F2 H2 E4 (f1.trans ro.e1)
end
/-! comparing with a script -/
theorem ok_scr {ns : List Int} : okEq (.scr ns) = true := by
  have hall : ∀ l : List Int, PyData.canLayAll0 (l.map PyData.int) = true ∧ PyData.depthAll (l.map PyData.int) = 0 := by
    intro l
    induction l with
    | nil => exact ⟨by unfold PyData.canLayAll0; rfl, by unfold PyData.depthAll; rfl⟩
    | cons x l ih =>
      refine ⟨?_, ?_⟩
      · rw [List.map_cons]
        unfold PyData.canLayAll0
        rw [ih.1]
        unfold PyData.canLay0
        rfl
      · rw [List.map_cons]
        unfold PyData.depthAll
        rw [ih.2]
        unfold PyData.depth
        rfl
  have h1 : plain (.scr ns) = true := by unfold plain; rfl
  have h2 : SeqAt.shaped (toP (.scr ns)) = true := by
    unfold toP SeqAt.shaped PyData.canLay0 PyData.depth
    rw [(hall ns).1, (hall ns).2]
    decide
  unfold okEq
  rw [h1, h2]
  rfl
theorem ok_nil : okEq (.lst []) = true := ok_eq (n := 1) (by unfold okD; rfl) (by decide)
theorem eqD_scr (ns : List Int) : eqD (.scr ns) (.lst []) = ns.isEmpty := by
  unfold eqD
  cases ns with
  | nil => simp only [toP, toPs, List.map_nil, PyData.eqv, PyData.eqvAll, List.isEmpty_nil]
  | cons x r => simp only [toP, toPs, List.map_cons, PyData.eqv, PyData.eqvAll, List.isEmpty_cons]
/-! equal data -/
mutual
theorem eqv_self : ∀ (n : Nat) (d : D), okD n d = true → PyData.eqv (toP d) (toP d) = true
  | _, .non, _ => by simp only [toP, PyData.eqv]
  | _, .bl b, _ => by simp only [toP, PyData.eqv, beq_self_eq_true]
  | _, .int i, _ => by simp only [toP, PyData.eqv, beq_self_eq_true]
  | _, .str s, _ => by simp only [toP, PyData.eqv]; exact beq_iff_eq.mpr rfl
  | 0, .lst _, h => by unfold okD at h; cases h
  | 0, .tup _, h => by unfold okD at h; cases h
  | n + 1, .lst xs, h => by
    simp only [toP, PyData.eqv]
    exact eqvs_self n xs (by unfold okD at h; exact h)
  | n + 1, .tup xs, h => by
    simp only [toP, PyData.eqv]
    exact eqvs_self n xs (by unfold okD at h; exact h)
  | 0, .dic _, h => by unfold okD at h; cases h
  | n + 1, .dic _, h => by unfold okD at h; cases h
  | 0, .obj _ _, h => by unfold okD at h; cases h
  | n + 1, .obj _ _, h => by unfold okD at h; cases h
  | 0, .exc _, h => by unfold okD at h; cases h
  | n + 1, .exc _, h => by unfold okD at h; cases h
  | 0, .ptr _, h => by unfold okD at h; cases h
  | n + 1, .ptr _, h => by unfold okD at h; cases h
  | 0, .scr _, h => by unfold okD at h; cases h
  | n + 1, .scr _, h => by unfold okD at h; cases h
theorem eqvs_self : ∀ (n : Nat) (xs : List D), xs.all (okD n) = true → PyData.eqvAll (toPs xs) (toPs xs) = true
  | _, [], _ => by simp only [toPs, PyData.eqvAll]
  | n, x :: xs, h => by
    rw [List.all_cons, Bool.and_eq_true] at h
    simp only [toPs, PyData.eqvAll]
    rw [eqv_self n x h.1, eqvs_self n xs h.2]
    rfl
end
theorem eqD_self {n : Nat} {d : D} (h : okD n d = true) : eqD d d = true := eqv_self n d h
/-- what is equal, compared: x == y, x != y -/
theorem d_same {K : PySem.W.Frag} {n : Nat} {d : D} (h : okD n d = true) (hn : n ≤ 64) : Op2 K (gEq K) d d (.bl true) := by
  have := d_eqD (K := K) (ok_eq h hn) (ok_eq h hn)
  rw [eqD_self h] at this
  exact this
theorem d_sameN {K : PySem.W.Frag} {n : Nat} {d : D} (h : okD n d = true) (hn : n ≤ 64) : Op2 K (gNe K) d d (.bl false) := by
  have := d_neD (K := K) (ok_eq h hn) (ok_eq h hn)
  rw [eqD_self h] at this
  exact this
theorem ok_ints {n : Nat} (ns : List Int) : okD (n + 1) (.lst (ns.map D.int)) = true := by
  unfold okD
  refine List.all_eq_true.mpr fun d hd => ?_
  obtain ⟨i, _, rfl⟩ := List.mem_map.mp hd
  cases n <;> (unfold okD; rfl)
theorem ok_bls {n : Nat} (ns : List Bool) : okD (n + 1) (.lst (ns.map D.bl)) = true := by
  unfold okD
  refine List.all_eq_true.mpr fun d hd => ?_
  obtain ⟨i, _, rfl⟩ := List.mem_map.mp hd
  cases n <;> (unfold okD; rfl)
end Cy

set_option Elab.async false
set_option linter.all false
set_option maxRecDepth 100000
set_option maxHeartbeats 2000000
namespace Cy
open PySem PySem.Spec PyProof.Rows L2 Evl
theorem exK_ok {P : Program} {w : World} {H : Hp} {h : Heap} {a : Addr} {cls : Value} {d : Option Addr} {oe : Obj} {vs : Array Value} (e : h.get? a = some oe) (z : Zc cls d oe) (hd : oe.data = .fields vs) : ObjOk P w H h a (ExK cls d a) :=
  ⟨⟨oe, vs, e, z, hd⟩, ⟨oe, e⟩, fun h1 h2 ⟨o, vs, q, z, y⟩ k => ⟨o, vs, k o q, z, y⟩⟩
section
variable {X : Cx} {pins : List (Addr × Obj)} {σ : L2.St} {H : Hp} {s : Shared}
/-- what stands in the heap, wasn't there at the entry and isn't tracked, may be tracked, if it isn't pinned -/
theorem inv_track {a : Addr} {o : HO} (I : Inv X pins σ H s) (h0 : X.s_0.heap.get? a = none) (hn : H a = none) (nL : a ≠ X.env.locals) (nC : ∀ x c, X.env.cells.lookup x = some c → a ≠ c) (nP : ∀ p ∈ X.pn ++ pins, p.1 ≠ a) (new : ObjOk X.prog X.w (upd H a o) s.heap a o) :
    Inv X pins σ (upd H a o) s := by
  have off : ∀ b u, X.s_0.heap.get? b = some u → b ≠ a := fun b u q z => by
    rw [z, h0] at q
    cases q
  refine ⟨I.ok, I.os, I.bare, ⟨I.base.keep, I.base.slot, fun b u q n x => ?_, I.base.there, fun b xs q => ?_, fun b u xs q => ?_, fun b ps q => ?_⟩, I.loc, I.cell, ?_, fun x c q => ?_, fun p hp => ?_, ?_, I.len⟩
  · rw [upd_ne (off b u q)]
    exact I.base.free b u q n x
  · have := I.base.tups b xs q
    rw [upd_ne (ne_of_none this hn)]
    exact this
  · have := I.base.frzs b u xs q
    rw [upd_ne (ne_of_none this hn)]
    exact this
  · obtain ⟨more, e⟩ := I.base.tbls b ps q
    exact ⟨more, by rw [upd_ne (ne_of_none e hn)]; exact e⟩
  · rw [upd_ne (Ne.symm nL)]
    exact I.free
  · rw [upd_ne (Ne.symm (nC x c q))]
    exact I.freeC x c q
  · obtain ⟨g, n, ne, nf, v⟩ := I.pin p hp
    exact ⟨g, by rw [upd_ne (nP p hp)]; exact n, ne, nf, v⟩
  · exact HOk.laidN I.hok (fun _ _ q => q) hn new
/-- a pin more, a pin less -/
theorem inv_pins {X' : Cx} {pins' : List (Addr × Obj)} (I : Inv X pins σ H s) (e : X' = { X with pn := X'.pn, A := X'.A, calm := X'.calm, xe := X'.xe }) (ok : X'.Ok) (hp : ∀ p ∈ X'.pn ++ pins', p ∈ X.pn ++ pins) : Inv X' pins' σ H s := by
  cases X'
  cases e
  exact ⟨ok, I.os, I.bare, I.base, I.loc, I.cell, I.free, I.freeC, fun p q => I.pin p (hp p q), I.hok, I.len⟩
end
/-- what the clause 'except x as n' wishes where the exception is kept -/
def wKept (K : PySem.W.Frag) (c : Value) (i : Nat) (ts : Addr → Value → Option Addr → TS) (Wout : WX) (D : Ends) : WX := fun cls d σ H =>
  ∃ b, PySem.W.exmOne K cls c = some b ∧
    (b = true → ∀ a, H a = none → ts a cls d { nx := fun σ' H' => D.nx (σ'.set i none) (upd H' a (ExK cls d a)), rt := fun v H' => D.rt v (upd H' a (ExK cls d a)), bk := fun σ' H' => D.bk (σ'.set i none) (upd H' a (ExK cls d a)), ct := fun σ' H' => D.ct (σ'.set i none) (upd H' a (ExK cls d a)) } (σ.set i (some (.ref a))) H) ∧
    (b = false → Wout cls d σ H)
section
variable {X : Cx} {x n : Str} {c : Value} {i : Nat} {body suite : List Stmt} {b₀ : Stmt} {np pos pos' : Pos} {tb : WX → TS} {ts : Addr → Value → Option Addr → TS} {Wout : WX}
/-- behind the suite: the name goes, the exception stays, tracked -/
theorem kept_end {a : Addr} {oe : Obj} {vs : Array Value} {cls : Value} {d : Option Addr} {pins : List (Addr × Obj)} {σ : L2.St} {H : Hp} {s : Shared} {Q : Shared → Prop} (I : Inv (X.suite a ((a, oe) :: (X.pn ++ pins))) [] σ H s) (ok : X.Ok) (hN : X.N.Nodup) (hi : X.N[i]? = some n) (hln : X.env.kindOf n = some .local)
    (h0 : X.s_0.heap.get? a = none) (nC : ∀ x c, X.env.cells.lookup x = some c → a ≠ c) (nP : ∀ p ∈ X.pn ++ pins, p.1 ≠ a) (z : Zc cls d oe) (hd : oe.data = .fields vs) (hq : ∀ s', Inv X pins (σ.set i none) (upd H a (ExK cls d a)) s' → Q s') :
    wpAny (model X.prog X.w) X.A (do bindName X.env n .none; unbindBehindTheSuite X.env n pos') (fun _ s' => Q s') X.xe s := by
  have J : Inv X ((a, oe) :: pins) σ H s := inv_pins I rfl ok fun p hp => by
    show p ∈ (a, oe) :: (X.pn ++ pins) ++ []
    rw [List.append_nil]
    rcases List.mem_append.mp hp with q | q
    · exact List.mem_cons_of_mem _ (List.mem_append_left _ q)
    · rcases List.mem_cons.mp q with q | q
      · rw [q]
        exact List.mem_cons_self
      · exact List.mem_cons_of_mem _ (List.mem_append_right _ q)
  refine gone_ok J hN hi hln fun s' J' => hq s' ?_
  obtain ⟨g, hn, nL, _, _⟩ := J'.pin (a, oe) (List.mem_append_right _ List.mem_cons_self)
  have J2 : Inv X pins (σ.set i none) H s' := inv_pins J' rfl ok fun p hp => by
    rcases List.mem_append.mp hp with q | q
    · exact List.mem_append_left _ q
    · exact List.mem_append_right _ (List.mem_cons_of_mem _ q)
  exact inv_track J2 h0 hn nL nC nP (exK_ok g z hd)
theorem ps_try_kept (hs : X.stack = X.env :: X.outer) (hf : X.env.frame = some X.env.locals) (hN : X.N.Nodup) (hi : X.N[i]? = some n) (hln : X.env.kindOf n = some .local) (hc : Names X x c) (tk : Takes X Wout) (hcell : X.env.cells = []) (hex : X.ex = [])
    (hb : ∀ (W : WX) (pn : List (Addr × Obj)) (xe : Value → Shared → Prop), Takes (X.tr pn xe) W → PassesOwn (model X.prog X.w) X.A X.env xe → PSs (X.tr pn xe) body (tb W))
    (hsu : ∀ (a : Addr) (oe : Obj) (cls : Value) (d : Option Addr) (pn : List (Addr × Obj)), Zc cls d oe → (∃ vs, oe.data = .fields vs) → PSs (X.suite a ((a, oe) :: pn)) (b₀ :: suite) (ts a cls d)) :
    PS X (.Try body [.ExceptHandler (some (.Name x np)) (some n) (b₀ :: suite) pos'] [] [] pos) (fun D σ H => tb (wKept X.K c i ts Wout D) D σ H) := by
  refine ⟨fun pins s σ H D I h => wpAny_Try_except ?_⟩
  have ok := I.ok
  have hfr : X.A.frames = some (X.env :: X.outer) := by rw [ok.frames, hs]
  refine wpAny_mono ((hb (wKept X.K c i ts Wout D) (X.pn ++ pins) _ (fun u s' xx => ?_) PassesOwn.looking).run [] s σ H D (I.toTry _) h) (fun f s1 hsp => ?_) (fun e s1 he => he)
  rotate_left
  · cases f with
    | next =>
      obtain ⟨σ', H', J', q⟩ := hsp
      exact wpAny_execs_nil ⟨σ', H', J'.ofTry ok, q⟩
    | brk =>
      obtain ⟨σ', H', J', q⟩ := hsp
      exact ⟨σ', H', J'.ofTry ok, q⟩
    | cont =>
      obtain ⟨σ', H', J', q⟩ := hsp
      exact ⟨σ', H', J'.ofTry ok, q⟩
    | ret u =>
      obtain ⟨v, σ', H', J', r, q⟩ := hsp
      exact ⟨v, σ', H', J'.ofTry ok, r, q⟩
  obtain ⟨a, B, sI, pins', σ', H', cls, d, rfl, J', nb, up, sky, na, os, ag, b, hb1, hyes, hno⟩ := xx
  have J : Inv X pins σ' H' sI := J'.ofTry ok
  have sky' : Sky B (X.env :: X.outer) a (Zc cls d) X.env.locals s'.heap := by rw [← hs]; exact sky
  refine Sky.land Zc.steady hfr hf sky' fun h3 fl3 up3 => ?_
  obtain ⟨oe3, vs3, he3, hz3, hd3⟩ := fl3.there
  have nfr : a ∉ frs (X.env :: X.outer) := fun hm => by
    obtain ⟨_, o', e', hnf⟩ := fl3.2.2.1.mem hm
    rw [he3] at e'
    cases e'
    exact hnf _ hd3
  have nL : a ≠ X.env.locals := fun z => nfr (List.mem_filterMap.mpr ⟨X.env, List.mem_cons_self, by rw [hf, z]⟩)
  have nF : a ∉ X.fs := fun hm => by
    obtain ⟨e, he, q⟩ := List.mem_filterMap.mp hm
    exact nfr (List.mem_filterMap.mpr ⟨e, List.mem_cons_of_mem _ he, q⟩)
  -- it is new
  have gone : sI.heap.get? a = none := by
    cases q : sI.heap.get? a with
    | none => rfl
    | some o =>
      have := nb a o q (by
        show a ∉ frs X.stack
        rw [hs]
        exact nfr)
      rw [fl3.2.1] at this
      cases this
  have h0 : X.s_0.heap.get? a = none := by
    cases q : X.s_0.heap.get? a with
    | none => rfl
    | some o =>
      obtain ⟨o', e⟩ := J.base.there a o q (by
        rw [hex]
        exact fun z => nomatch z)
      rw [gone] at e
      cases e
  have nP : ∀ p ∈ X.pn ++ pins, p.1 ≠ a := fun p hp z => by
    obtain ⟨g, _⟩ := J.pin p hp
    rw [z, gone] at g
    cases g
  have nC : ∀ x c, X.env.cells.lookup x = some c → a ≠ c := fun x c e => by
    rw [hcell] at e
    cases e
  have J3 : Inv X pins σ' H' { s' with heap := h3 } := J.landed nb fl3.1 (up.trans up3) os ag
  have S3 := J3.suite he3 hd3 na nL nF
  refine wpAny_handleBy_cons (codeAny_handlers_test ?_) (by intro q; cases q)
  have LT : PySem.W.Looks (model X.prog X.w) h3 (typeOf (.ref a)) cls := fun A Q E s k q => wpAny_typeOf_ref (k _ _ he3) (by rw [hz3.1]; exact q)
  have test : ∀ {Q : Value → Shared → Prop} {E : Value → Shared → Prop}, Q c { s' with heap := h3 } → wpAny (model X.prog X.w) (X.A.mark (some (.ref a))) (eval (.Name x np) X.env) Q E { s' with heap := h3 } := fun {Q E} q => by
    obtain ⟨hg, hdbg, hm | ⟨hm, hv, hnn⟩⟩ := hc
    · exact ld_glob (X := X.suite a ((a, oe3) :: (X.pn ++ pins))) S3 hg hm q hdbg
    · exact ld_blt (X := X.suite a ((a, oe3) :: (X.pn ++ pins))) S3 hg hm hv q hnn hdbg
  refine test ((PySem.W.exm_one (M := model X.prog X.w) J3.kIn LT hb1).here ?_)
  cases b with
  | false =>
    refine wpAny_handleBy_nil ?_
    obtain ⟨_, _, _, oe, vs, T, _, _, he, _, hd, h1, _⟩ := id fl3
    unfold PySem.passOn
    refine wpAny_bind (wpAny_field he hd h1 ?_)
    rw [if_neg (show ¬ ((Value.ref T == Value.none) = true) from by simp)]
    have fin : wpAny (model X.prog X.w) X.A (setFlight (.ref a) X.env.frame) (fun _ s4 => wpAny (model X.prog X.w) X.A (throw (.ref a) : Sem Flow) (SP X pins D) X.xe s4) X.xe { s' with heap := h3 } := by
      rw [hf]
      refine HandSPX.setFlight_upZ fl3 fun h4 hh4 up4 => wpAny_throw (tk _ _ ?_)
      exact ⟨a, B, sI, pins, σ', H', cls, d, rfl, J, nb, (up.trans up3).trans up4, .inr (.inr (by rw [hs]; exact hh4)), na, os, ag, hno rfl⟩
    first
      | exact wpAny_bind (wpAny_pure (wpAny_bind fin))
      | exact wpAny_bind fin
  | true =>
    refine codeAny_handlers_suite_as (HandSPX.lands_againZ fl3 fun h4 fl4 up4 => ?_)
    have J4 : Inv X pins σ' H' { s' with heap := h4 } := J.landed nb fl4.1 ((up.trans up3).trans up4) os ag
    obtain ⟨oe4, vs4, he4, hz4, hd4⟩ := fl4.there
    refine store_ok (X := X.suite a ((a, oe4) :: (X.pn ++ pins))) (v := .ref a) (J4.suite he4 hd4 na nL nF) hN hi (.inl hln) rfl (fun s5 S5 => ?_) (.inr hln)
    refine wpAny_mono ((hsu a oe4 cls d (X.pn ++ pins) hz4 ⟨_, hd4⟩).run [] s5 _ H' _ S5 (hyes rfl a na)) (fun f s6 hsp => ?_) (fun _ _ z => False.elim z)
    cases f with
    | next =>
      obtain ⟨σ6, H6, S6, q6⟩ := hsp
      exact kept_end S6 ok hN hi hln h0 nC nP hz4 hd4 fun s7 J7 => ⟨_, _, J7, q6⟩
    | brk =>
      obtain ⟨σ6, H6, S6, q6⟩ := hsp
      exact kept_end S6 ok hN hi hln h0 nC nP hz4 hd4 fun s7 J7 => ⟨_, _, J7, q6⟩
    | cont =>
      obtain ⟨σ6, H6, S6, q6⟩ := hsp
      exact kept_end S6 ok hN hi hln h0 nC nP hz4 hd4 fun s7 J7 => ⟨_, _, J7, q6⟩
    | ret u =>
      obtain ⟨v6, σ6, H6, S6, r6, q6⟩ := hsp
      exact kept_end S6 ok hN hi hln h0 nC nP hz4 hd4 fun s7 J7 => ⟨_, _, _, J7, r6, q6⟩
end
/-! isinstance of an exception that is kept -/
def rIsK (K : PySem.W.Frag) : List V → Hp → VK → Prop := fun xs H Q => ∃ (a D : Addr) (c : V) (cv : Value) (b : Bool), xs = [.ref a, c] ∧ H a = some (ExK (.ref D) none a) ∧ ExcC K D ∧ (∀ u, RelV c u → u = cv) ∧ PySem.W.kitOne K (.ref D) cv = some b ∧ Q (.bl b) H
theorem call_isK {X : Cx} : CallR X (.builtin "isinstance") (rIsK X.K) := by
  intro pins s σ H xs us Q I r h
  obtain ⟨a, D, c, cv, b, rfl, ha, C, hcv, e, q⟩ := h
  cases r with
  | cons rx rr =>
    cases rr with
    | cons rt rr =>
      cases rr
      cases rx
      have ec := hcv _ rt
      subst ec
      obtain ⟨⟨oe, vs, hget, hz, hv⟩, _⟩ := I.hok a _ ha
      have J : PySem.W.InstAt s.heap a oe D none := by
        obtain ⟨oc, od, oda, osl⟩ := oe
        obtain ⟨h1, h2⟩ := hz
        dsimp only at h1 h2 hv
        subst h1 h2 hv
        exact ⟨hget, rfl, rfl, trivial⟩
      exact PySem.W.kia_one (PySem.W.handS_kitx_exc C.hg C.hk C.hs C.hd C.ha C.hn C.ht C.hm) I.kIn J e (fun z => nomatch z) fun tk => ⟨.bl b, H, I.kept (t' := tk) fun _ _ z => z, rfl, q⟩
/-! C(..) that may raise, at the slots where it stands -/
section
variable {X : Cx} {CX : CXT} {k : Nat} {f C : Addr} {fd : FuncData} {ps : List Str} {ds : List Value} {dvs : List V} {sp : Sp} {E : L2.St → XK} {x : Str} {p pos : Pos} {e : Expr} {es : List Expr} {t : TA}
def tMakeS (C : Addr) (sp : Sp) (E : L2.St → XK) (t : TA) : TE := fun σ H Q => tMake C sp [] (E σ) t σ H Q
theorem pe_makeS (M : Mk X.K C f) (F : FnOk X.prog X.w X.K X.mg X.base CX k f fd ps sp) (hr : Room (k + 1) X.A) (hg : Gl X x) (hm : X.mg x = some (.ref C)) (hb : Binds X.K fd ps []) (hx : ∀ σ, PassesAt CX X σ (E σ)) (ha : PA X (e :: es) t)
    (hdb : (x == ("__debug__" : Str)) = false := by decide) (he : starEach (e :: es) X.env = (false, eval e X.env) :: starEach es X.env := by rfl) (hpl : (backTo pos (starEach es X.env)).any (·.1) = false := by rfl) :
    PE X (.Call (.Name x p) (e :: es) [] pos) (tMakeS C sp E t) := by
  refine ⟨fun pins s σ H Q I h => wpAny_Call_Name_kw (ld_glob I hg hm ?_ hdb)⟩
  refine PySem.W.callWith_K (h₀ := X.base) I.ok.mod.kin M.kp (thn (ha.run pos pins s σ H _ I h) fun us s1 ⟨vs, H1, I1, r, q⟩ => ⟨I1.kIn, ?_⟩) he hpl
  -- the object, then its __init__
  have q0 := q (s1.heap.objs.size + 1) s1.heap.objs.size (I1.hok.fresh (Nat.le_succ _)) (I1.hok.fresh (Nat.le_refl _)) (Nat.ne_of_lt (Nat.lt_succ_self _))
  rw [List.append_nil] at q0
  have I2 := Inv.made (C := C) I1
  have r2 : Vals (V.ref (s1.heap.objs.size + 1) :: vs) (Value.ref (s1.heap.objs.size + 1) :: us) := .cons rfl r
  have hl : (Value.ref (s1.heap.objs.size + 1) :: us).length = ps.length := by
    rw [← r2.length]
    exact F.len _ _ _ _ q0
  have b := hb _ (Value.ref (s1.heap.objs.size + 1) :: us) I2.kIn (by rw [List.append_nil]; exact hl)
  rw [List.append_nil] at b
  refine wpAny_call (make_map (f := f) I1.kIn M.makes M.init (beq_iff_eq.mp M.fn) (codeAny_mono (F.run _ X.stack _ _ _ _ _ _ _ (hr.make C us []) (I2.env0.make C us []) b r2 q0) fun r s' hq => ?_))
  cases r with
  | error u => exact hx σ pins _ _ u s' I2 hq
  | ok fl =>
    cases fl with
    | ret u =>
      obtain ⟨v, H', I3, rv, ev, q3⟩ := I2.after hq
      subst ev
      exact ⟨rv, ⟨V.ref (s1.heap.objs.size + 1), H', I3, rfl, q3⟩⟩
    | next => exact False.elim hq
    | brk => exact False.elim hq
    | cont => exact False.elim hq
end
end Cy
namespace Cy
open PySem L2 Evl
/-! promises of defs that may raise -/
inductive Res where
  | ok (d : D)
  | exc (C : Addr)
def Res.out (r : Res) (X : XK) : Out := match r with
  | .ok d => .rt d
  | .exc C => .ex C X
def spX (K : PySem.W.Frag) (R : List D → Res → Prop) : Sp := fun vs H Q E => ∃ F ds r, Ex F H ∧ RpA K F vs ds ∧ R ds r ∧ match r with
  | .ok d => ∀ v F' H', Ro H F F' H' → Rp K F' v d → Q v H'
  | .exc C => ∀ F' H', Ro H F F' H' → E (.ref C) none H'
/-- an __init__ that may raise -/
inductive ResI where
  | ok (fs : List (Str × D))
  | exc (C : Addr)
def spIX (K : PySem.W.Frag) (C : Addr) (R : List D → ResI → Prop) : Sp := fun vs H Q E => ∃ F H1 x dx ws ds r, vs = .ref x :: ws ∧ H = upd (upd H1 dx (.own x)) x (.ins C dx []) ∧ H1 x = none ∧ H1 dx = none ∧ dx ≠ x ∧ Ex F H1 ∧ RpA K F ws ds ∧ R ds r ∧ match r with
  | .ok fs => ∀ gs dx' F' H', Ro H1 F F' H' → F' x = none → H' x = some (.ins C dx' gs) → gs.map (fun p => p.1) = fs.map (fun p => p.1) → RpA K F' (gs.map fun p => p.2) (fs.map fun p => p.2) → Q .non H'
  | .exc D => ∀ F' H', Ro H1 F F' H' → E (.ref D) none H'
section
variable {K : PySem.W.Frag} {G G1 G2 : List Sl} {ta : TA} {te tx : TE} {t u tt : TT} {tu tw tz : TS} {d : D} {ds l : List D} {o : Out} {g : TG} {X : XK} {C : Addr}
theorem spX_len {R : List D → Res → Prop} {vs : List V} {H : Hp} {Q : VK} {E : XK} {n : Nat} (hR : ∀ ds d, R ds d → ds.length = n) (h : spX K R vs H Q E) : vs.length = n := by
  obtain ⟨F, ds, d, e, r, h1, _⟩ := h
  rw [r.length]
  exact hR ds d h1
theorem spIX_len {R : List D → ResI → Prop} {vs : List V} {H : Hp} {Q : VK} {E : XK} {n : Nat} (hR : ∀ ds d, R ds d → ds.length = n) (h : spIX K C R vs H Q E) : vs.length = n + 1 := by
  obtain ⟨F, H1, x, dx, ws, ds, fs, rfl, _, _, _, _, _, r, h1, _⟩ := h
  rw [List.length_cons, r.length, hR ds fs h1]
/-- a def's body -/
theorem body_X {N : List Str} {R : List D → Res → Prop} {vs : List V} {H : Hp} {Q : VK} {E : XK} {t : XK → TS} (h : spX K R vs H Q E) (hn : ∀ ds d, R ds d → ds.length ≤ N.length)
    (hb : ∀ ds r (E : XK), R ds r → StD K (t E) (args N.length ds) (r.out E)) : t E { nx := fun _ H' => Q .non H', rt := Q } (start N vs) H := by
  obtain ⟨F, ds, r, e, ra, hR, q⟩ := h
  have hs := hb ds r E hR
  cases r with
  | ok d => exact hs (start_en e ra (hn ds _ hR)) fun v F' H' ro r' => q v F' H' ro r'
  | exc C => exact hs (start_en e ra (hn ds _ hR)) fun F' H' ro => q F' H' ro
/-- raise C(text) -/
def tRaise (C : Addr) (X : XK) (ta : TE) : TS := fun _ σ H => ta σ H fun _ H' => X (.ref C) none H'
theorem st_raise (h : EvD K te G d) : StD K (tRaise C X te) G (.ex C X) := .mk fun {H0 F0 F H σ E} En p => h En _ fun v F1 H1 E1 f1 g1 n1 r1 => p F1 H1 E1.ro
def tRaise0 (C : Addr) (X : XK) : TS := fun _ _ H => X (.ref C) none H
theorem st_raise0 : StD K (tRaise0 C X) G (.ex C X) := .mk fun {H0 F0 F H σ E} En p => p F H En.ro
/-- a guard that fires -/
theorem st_fire (h : EvTt K t G true) (h2 : StD K tu G o) (ho : ∀ G, o ≠ .nx G) : StD K (tSeq (tIfS t tu tNext) tw) G o := st_stop (st_if h (fun _ => h2) (fun q => nomatch q)) ho
/-- a call that hands something back -/
theorem e_callX {R : List D → Res → Prop} (h : EvS K ta G ds) (hR : R ds (.ok d)) : EvD K (tCall (spX K R) [] X ta) G d := .mk fun {H0 F0 F H σ} En Q q =>
  h En _ fun vs F1 H1 E1 f1 g1 n1 r1 => by
    refine ⟨F1, ds, .ok d, E1.ef, by rw [List.append_nil]; exact r1, hR, fun v F2 H2 ro r2 => ?_⟩
    exact q v F2 H2 (E1.grow ro.e1 ro.e0 ro.ef ro.nf) (f1.trans ro.e1) (g1.trans ro.e0) (n1.trans ro.nf g1) r2
theorem Ro.back {H0 F0 F1 H1 F' H' : Hp} {σ : L2.St} (E : En K H0 F0 F1 H1 σ G) (ro : Ro H1 F1 F' H') : Ro H0 F0 F' H' := ⟨E.e0.trans ro.e0, ro.ef, E.e1.trans ro.e1, fun a o q => by
  rcases ro.nf a o q with z | z
  · exact E.nf a o z
  · exact .inr (ex_none E.e0 z)⟩
/-- a call that raises: what is done with what it would hand back isn't done -/
theorem x_call {R : List D → Res → Prop} (h : EvS K ta G ds) (hR : R ds (.exc C)) {H0 F0 F H : Hp} {σ : L2.St} (En : En K H0 F0 F H σ G) {Q : VK} (q : ∀ F' H', Ro H0 F0 F' H' → X (.ref C) none H') : tCall (spX K R) [] X ta σ H Q :=
  h En _ fun vs F1 H1 E1 f1 g1 n1 r1 => ⟨F1, ds, .exc C, E1.ef, by rw [List.append_nil]; exact r1, hR, fun F2 H2 ro => q F2 H2 (Ro.back E1 ro)⟩
theorem st_asgX {R : List D → Res → Prop} (h : EvS K ta G ds) (hR : R ds (.exc C)) : StD K (tAsg (tCall (spX K R) [] X ta) g) G (.ex C X) := .mk fun {H0 F0 F H σ E} En p => x_call h hR En p
theorem st_dropX {R : List D → Res → Prop} (h : EvS K ta G ds) (hR : R ds (.exc C)) : StD K (tDrop (tCall (spX K R) [] X ta)) G (.ex C X) := .mk fun {H0 F0 F H σ E} En p => x_call h hR En p
theorem st_retX {R : List D → Res → Prop} (h : EvS K ta G ds) (hR : R ds (.exc C)) : StD K (tRet (tCall (spX K R) [] X ta)) G (.ex C X) := .mk fun {H0 F0 F H σ E} En p => x_call h hR En p
theorem startI_en {N : List Str} {F H1 : Hp} {x dx C : Addr} {ws : List V} (hx : H1 x = none) (hdx : H1 dx = none) (hne : dx ≠ x) (e : Ex F H1) (r : RpA K F ws ds) (hl : ds.length + 1 ≤ N.length) :
    En K H1 F F (upd (upd H1 dx (.own x)) x (.ins C dx [])) (start N (.ref x :: ws)) (argsI N.length x C ds) := by
  have eH : Ex H1 (upd (upd H1 dx (.own x)) x (.ins C dx [])) := fun z o y => by
    rw [upd_ne (ne_of_none y hx), upd_ne (ne_of_none y hdx)]
    exact y
  have hst : ∀ (N : List Str) (vs : List V), start N vs = vs.map some ++ List.replicate (N.length - vs.length) none := fun N vs => by
    first | rfl | (unfold start; rfl)
  have hstart : start N (.ref x :: ws) = some (.ref x) :: start (N.drop 1) ws := by
    rw [hst, hst, List.length_drop]
    show some (V.ref x) :: (ws.map some ++ List.replicate (N.length - (ws.length + 1)) none) = some (V.ref x) :: (ws.map some ++ List.replicate (N.length - 1 - ws.length) none)
    congr 3
    omega
  have base := start_en (K := K) (N := N.drop 1) e r (by rw [List.length_drop]; omega)
  have hlen : (N.drop 1).length = N.length - 1 := List.length_drop
  rw [hstart]
  unfold argsI
  rw [← hlen]
  refine ⟨fun i d h => ?_, fun i w h => ?_, fun i j li lj p hij h1 h2 h3 => ?_, eH, e.trans eH, Ex.refl F, fun a o h => .inl h, ?_⟩
  · cases i with
    | zero => cases h
    | succ i => exact base.dat i d (by simpa using h)
  · cases i with
    | zero =>
      simp at h
      subst h
      exact ⟨x, _, rfl, ex_none e hx, hx, upd_same, .ins rfl .nil⟩
    | succ i =>
      obtain ⟨p, o, a1, b1, c1, d1, r1⟩ := base.own i w (by simpa using h)
      rw [c1] at d1
      cases d1
  · cases i with
    | zero =>
      cases j with
      | zero => exact absurd rfl hij
      | succ j =>
        obtain ⟨p2, o, a1, b1, c1, d1, r1⟩ := base.own j lj (by simpa using h2)
        rw [c1] at d1
        cases d1
    | succ i =>
      obtain ⟨p2, o, a1, b1, c1, d1, r1⟩ := base.own i li (by simpa using h1)
      rw [c1] at d1
      cases d1
  · rw [List.length_cons, List.length_cons, base.len]
/-- an __init__'s body -/
theorem body_IX {N : List Str} {R : List D → ResI → Prop} {vs : List V} {H : Hp} {Q : VK} {E : XK} {t : XK → TS} (h : spIX K C R vs H Q E) (hn : ∀ ds d, R ds d → ds.length + 1 ≤ N.length)
    (hok : ∀ x ds fs (E : XK), R ds (.ok fs) → ∃ G, G[0]? = some (.own (.ins x C fs)) ∧ StD K (t E) (argsI N.length x C ds) (.nx G))
    (hex : ∀ x ds D (E : XK), R ds (.exc D) → StD K (t E) (argsI N.length x C ds) (.ex D E)) : t E { nx := fun _ H' => Q .non H', rt := Q } (start N vs) H := by
  obtain ⟨F, H1, x, dx, ws, ds, r, rfl, rfl, hx, hdx, hne, e, ra, hR, q⟩ := h
  cases r with
  | ok fs =>
    exact body_I (R := fun ds' fs' => ds' = ds ∧ fs' = fs) (t := t E) (E := E) ⟨F, H1, x, dx, ws, ds, fs, rfl, rfl, hx, hdx, hne, e, ra, ⟨rfl, rfl⟩, q⟩ (fun ds' d' hz => by rw [hz.1]; exact hn ds _ hR) fun x' ds' fs' hz => by
      rw [hz.1, hz.2]
      exact hok x' ds fs E hR
  | exc D =>
    obtain ⟨F, rest⟩ : ∃ F', F' = F := ⟨F, rfl⟩
    subst rest
    -- the same start as body_I's
    have hs := hex x ds D E hR
    have E1 := startI_en (K := K) (N := N) (C := C) hx hdx hne e ra (hn ds _ hR)
    exact hs E1 fun F' H' ro => q F' H' ro
end
end Cy
namespace Cy
open PySem PySem.Spec PyProof.Rows L2 Evl
/-! try: e / except C as n: m = n -/
/-- the expression raises C -/
structure RsD (K : PySem.W.Frag) (te : (L2.St → XK) → TE) (G : List Sl) (C : Addr) : Prop where
  run : ∀ {H0 F0 F H : Hp} {σ : L2.St}, En K H0 F0 F H σ G → ∀ (E : L2.St → XK) (Q : VK), (∀ F' H', En K H0 F0 F' H' σ G → Ex F F' → Ex H H' → Nw F F' H → E σ (.ref C) none H') → te E σ H Q
def tTry (K : PySem.W.Frag) (c : Value) (i m : Nat) (te : (L2.St → XK) → TE) : TS := fun D σ H => tDrop (te (WE (wKept K c i (fun _ _ _ => tAsg (tVar i) (gName m)) (fun _ _ _ _ => False) D))) D σ H
section
variable {K : PySem.W.Frag} {G G1 G2 : List Sl} {ta tr : TA} {to : TE} {ds : List D} {d : D} {C C' : Addr}
theorem rs_call {R : List D → Res → Prop} (h : EvS K ta G ds) (hR : R ds (.exc C)) : RsD K (fun E => tCallS (spX K R) E ta) G C := .mk fun {H0 F0 F H σ} En E Q q =>
  h En _ fun vs F1 H1 E1 f1 g1 n1 r1 => ⟨F1, ds, .exc C, E1.ef, r1, hR, fun F2 H2 ro => q F2 H2 (E1.grow ro.e1 ro.e0 ro.ef ro.nf) (f1.trans ro.e1) (g1.trans ro.e0) (n1.trans ro.nf g1)⟩
theorem ev_callS {R : List D → Res → Prop} {E : L2.St → XK} (h : EvS K ta G ds) (hR : R ds (.ok d)) : EvD K (tCallS (spX K R) E ta) G d := .mk fun {H0 F0 F H σ} En Q q =>
  h En _ fun vs F1 H1 E1 f1 g1 n1 r1 => ⟨F1, ds, .ok d, E1.ef, r1, hR, fun v F2 H2 ro r2 => q v F2 H2 (E1.grow ro.e1 ro.e0 ro.ef ro.nf) (f1.trans ro.e1) (g1.trans ro.e0) (n1.trans ro.nf g1) r2⟩
theorem rs_make {R : List D → ResI → Prop} (h : EvS K ta G ds) (hR : R ds (.exc C)) : RsD K (fun E => tMakeS C' (spIX K C' R) E ta) G C := .mk fun {H0 F0 F H σ} En E Q q =>
  h En _ fun vs F1 H1 E1 f1 g1 n1 r1 => fun x dx hx hdx hne =>
    ⟨F1, H1, x, dx, vs ++ [], ds, .exc C, rfl, rfl, hx, hdx, hne, E1.ef, by rw [List.append_nil]; exact r1, hR, fun F2 H2 ro => q F2 H2 (E1.grow ro.e1 ro.e0 ro.ef ro.nf) (f1.trans ro.e1) (g1.trans ro.e0) (n1.trans ro.nf g1)⟩
theorem ev_makeS {R : List D → ResI → Prop} {fs : List (Str × D)} {E : L2.St → XK} (h : EvS K ta G ds) (hR : R ds (.ok fs)) : EvD K (tMakeS C' (spIX K C' R) E ta) G (.obj C' fs) := .mk fun {H0 F0 F H σ} En Q q =>
  h En _ fun vs F1 H1 E1 f1 g1 n1 r1 => fun x dx hx hdx hne => by
    refine ⟨F1, H1, x, dx, vs ++ [], ds, .ok fs, rfl, rfl, hx, hdx, hne, E1.ef, by rw [List.append_nil]; exact r1, hR, fun gs dx' F' H' ro hF hH hn hr => ⟨rfl, ?_⟩⟩
    have ef : Ex F' (upd F' x (.ins C' dx' gs)) := Ex.new hF
    have nw : Nw F1 (upd F' x (.ins C' dx' gs)) H1 := nw_upd hx ro.nf
    refine q (.ref x) (upd F' x (.ins C' dx' gs)) H' (E1.grow (ro.e1.trans ef) ro.e0 (fun z o y => ?_) nw) ((f1.trans ro.e1).trans ef) (g1.trans ro.e0) (n1.trans nw g1) (.obj upd_same hn (hr.mono ef))
    by_cases hz : z = x
    · subst hz
      rw [upd_same] at y
      cases y
      exact hH
    · rw [upd_ne hz] at y
      exact ro.ef z o y
/-- nothing is raised -/
theorem st_try_ok {te : (L2.St → XK) → TE} {c : Value} {i m : Nat} (h : ∀ E, EvD K (te E) G d) : StD K (tTry K c i m te) G (.nx G) := .mk fun {H0 F0 F H σ E} En p =>
  (h _) En _ fun v F1 H1 E1 f1 g1 n1 r1 => p σ F1 H1 E1 f1
/-- it is caught, and kept -/
theorem st_try_exc {te : (L2.St → XK) → TE} {c : Value} {i m : Nat} (him : i ≠ m) (h : RsD K te G C) (hc : PySem.W.exmOne K (.ref C) c = some true) (hi : i < G.length) : StD K (tTry K c i m te) G (.nx ((G.set m (.dat (.exc C))).set i .no)) := .mk fun {H0 F0 F H σ E} En p =>
  h.run En _ _ fun F1 H1 E1 f1 g1 n1 => by
    refine ⟨true, hc, fun _ a ha => ?_, fun q => nomatch q⟩
    have hl : i < σ.length := by
      rw [E1.len]
      exact hi
    refine ⟨.ref a, List.getElem?_set_self hl, ?_⟩
    have hF : F1 a = none := ex_none E1.ef ha
    have ef : Ex F1 (upd F1 a (ExK (.ref C) none a)) := Ex.new hF
    have E2 := E1.grow ef (Ex.new ha) (ex_upd_both E1.ef) (nw_upd ha (Nw.refl F1 H1))
    have E3 := (E2.setD (v := .ref a) (d := .exc C) (.exc upd_same) m).setN i
    have e : ((σ.set i (some (.ref a))).set m (some (.ref a))).set i none = (σ.set m (some (.ref a))).set i none := by
      rw [List.set_comm _ _ him, List.set_set]
    show E.nx (((σ.set i (some (.ref a))).set m (some (.ref a))).set i none) (upd H1 a (ExK (.ref C) none a))
    rw [e]
    exact p _ _ _ E3 (f1.trans ef)
/-- isinstance(e, T) of what was kept -/
def gIsi (K : PySem.W.Frag) := orC (rIsK K) (rIsi K)
theorem call_gIsi {X : Cx} : CallR X (.builtin "isinstance") (gIsi X.K) := call_isK.or call_isi
theorem e_isK {D' : Addr} {cv : Value} {v : V} {b : Bool} (h : EvD K to G (.exc C)) (hx : ExcC K C) (hv : ∀ u, RelV v u → u = cv) (hk : PySem.W.kitOne K (.ref C) cv = some b) : EvD K (tCB (gIsi K) (tCons to (tCons (tC v) tNil))) G (.bl b) := .mk fun {H0 F0 F H σ} E Q q =>
  h E _ fun u F1 H1 E1 f1 g1 n1 r1 => by
    cases r1 with
    | exc ha =>
      refine Or.inl ⟨_, C, v, cv, b, rfl, E1.ef _ _ ha, hx, hv, hk, ?_⟩
      exact q _ F1 H1 E1 f1 g1 n1 (.bl b)
end
/-- the rule: the body is one expression -/
theorem ps_tryE {X : Cx} {x n : Str} {c : Value} {i m : Nat} {e : Expr} {b₀ : Stmt} {np pos pos' epos : Pos} {te : (L2.St → XK) → TE} (hs : X.stack = X.env :: X.outer) (hf : X.env.frame = some X.env.locals) (hN : X.N.Nodup) (hi : X.N[i]? = some n) (hln : X.env.kindOf n = some .local) (hc : Names X x c) (hcell : X.env.cells = []) (hex : X.ex = [])
    (hb : ∀ (W : WX) (pn : List (Addr × Obj)) (xe : Value → Shared → Prop), Takes (X.tr pn xe) W → PS (X.tr pn xe) (.Expr e epos) (tDrop (te (WE W))))
    (hsu : ∀ (a : Addr) (pn : List (Addr × Obj)), PS (X.suite a pn) b₀ (tAsg (tVar i) (gName m))) :
    PS X (.Try [.Expr e epos] [.ExceptHandler (some (.Name x np)) (some n) [b₀] pos'] [] [] pos) (tTry X.K c i m te) :=
  ps_try_kept (tb := fun W => tDrop (te (WE W))) (ts := fun _ _ _ => tAsg (tVar i) (gName m)) hs hf hN hi hln hc takes0 hcell hex (fun W pn xe tk _ => pss_one (hb W pn xe tk)) fun a oe cls d pn _ _ => pss_one (hsu a _)
end Cy
namespace Cy
open PySem PySem.Spec PyProof.Rows L2
/-! isinstance's answer for classes of the text -/
theorem kit_self {K : PySem.W.Frag} {t : Value} : PySem.W.kitOne K t t = some true := if_pos (beq_self_eq_true t)
theorem kit_ref {K : PySem.W.Frag} {t : Value} {C : Addr} {b : Bool} (h1 : PySem.W.hasDictIn K C = true) (ht : PySem.W.typeIn K (.ref C) = some (.type "type")) (hs : PySem.W.subIn K t (.ref C) = some b) (hd : (t == .ref C) = false) : PySem.W.kitOne K t (.ref C) = some b := by
  obtain ⟨cd, hc, _⟩ := PySem.W.any_some h1
  have e : ((PySem.W.clsIn K C).isSome && PySem.W.typeIn K (.ref C) == some (.type "type")) = true := by rw [hc, ht] <;> rfl
  show (if (t == .ref C) = true then some true else if ((PySem.W.clsIn K C).isSome && PySem.W.typeIn K (.ref C) == some (.type "type")) = true then PySem.W.subIn K t (.ref C) else none) = some b
  rw [hd, if_neg Bool.false_ne_true, if_pos e]
  exact hs
theorem kit_typ {K : PySem.W.Frag} {C : Addr} {T : String} {b : Bool} (hm : PySem.W.kitMeta T = true) (hs : PySem.W.subIn K (.ref C) (.type T) = some b) : PySem.W.kitOne K (.ref C) (.type T) = some b := by
  have hd : (Value.ref C == Value.type T) = false := rfl
  show (if (Value.ref C == Value.type T) = true then some true else if PySem.W.kitMeta T = true then PySem.W.subIn K (.ref C) (.type T) else none) = some b
  rw [hd, if_neg Bool.false_ne_true, if_pos hm]
  exact hs
end Cy

set_option Elab.async false
set_option linter.all false
set_option maxRecDepth 100000
set_option maxHeartbeats 2000000
namespace Cy
open PySem PySem.Spec PyProof.Rows L2 Evl
/-! a def's promise where nothing around it is being shown (no guard stands): what repr of lists, tuples, dicts wants -/
def Calm (k : Nat) (A : Around) : Prop := Room k A ∧ A.guards = some []
structure FnG (P : Program) (w : World) (K : PySem.W.Frag) (mg : Str → Option Value) (base : Heap) (CX : CXT) (k : Nat) (f : Addr) (fd : FuncData) (ps : List Str) (sp : Sp) : Prop where
  len : ∀ vs H Q E, sp vs H Q E → vs.length = ps.length
  run : ∀ (A : Around) (outer : List Env) (s : Shared) (H : Hp) (args : Args) (us : List Value) (vs : List V) (Q : VK) (E : XK), Calm k A → Env0 P w K mg base A outer s H → BindsTo s fd args (ps.zip us) → Vals vs us → sp vs H Q E →
    codeAny (model P w) A (.call (.ref f) args) (CR CX outer P w H s Q E) s
/-- what is promised anywhere is promised there -/
theorem FnG.of {P : Program} {w : World} {K : PySem.W.Frag} {mg : Str → Option Value} {base : Heap} {CX : CXT} {k : Nat} {f : Addr} {fd : FuncData} {ps : List Str} {sp : Sp} (F : FnOk P w K mg base CX k f fd ps sp) : FnG P w K mg base CX k f fd ps sp :=
  ⟨F.len, fun A outer s H args us vs Q E c => F.run A outer s H args us vs Q E c.1⟩
/-- a def of the text, by its body's reading -/
theorem fnG_of {CX : CXT} {P : Program} {w : World} {K : PySem.W.Frag} {mg : Str → Option Value} {base : Heap} {k : Nat} {x qual : Str} {st : Stmt} {f : Addr} {fd : FuncData} {N ps : List Str} {sp : Sp} (F : Fun K x qual st f fd) (S : FnScope N ps (defScope st)) (len : ∀ vs H Q E, sp vs H Q E → vs.length = ps.length)
    (hbody : ∀ (cdv : Value) (A : Around) (outer : List Env) (s : Shared) (H : Hp) (vs : List V) (Q : VK) (E : XK), Calm k (A.deeper (envOfC qual (defScope st) s.heap.objs.size f cdv)) → sp vs H Q E →
      ∃ t, PSs (cxOf CX P w K mg base N qual (defScope st) f cdv A outer s H E) (defBody st) t ∧ t { nx := fun _ H' => Q .non H', rt := Q } (start N vs) H) : FnG P w K mg base CX (k + 1) f fd ps sp := by
  obtain ⟨oc, od, kV, doc, pm, an, cdv, ct, osl, rfl, lk, hcd⟩ := F.ex
  refine ⟨len, fun A outer s H args us vs Q E hr e0 hb r hsp => ?_⟩
  have grows : ∀ b o, base.get? b = some o → s.heap.get? b = some o := fun b o e => (e0.bs b o e).1
  have KX : K.In s.heap := e0.mod.kin.keeps grows
  refine codeAny_call_function hr.1.depth (KX _ _ lk) rfl S.co S.gen rfl (PySem.W.codeRec_of KX hcd) (hb _ _ _ _ (wpAny_newFunctionEnv_cells S.kind (fun y hy => ?_) fun env he s1 x => ?_))
  · rcases S.par y.1 (List.of_mem_zip (show (y.1, y.2) ∈ ps.zip us from hy)).1 with q | q
    · exact .inl q
    · exact .inr ⟨q, PySem.W.cellsFrom_some _ _ _ (.inl q)⟩
  subst he
  refine ⟨(e0.mod.nolimit.keeps grows).keeps x.toInCall.keep, codeAny_func ?_⟩
  obtain ⟨t, ht, hq⟩ := hbody cdv A outer s H vs Q E ⟨hr.1.deeper _, hr.2⟩ hsp
  have done : ∀ {σ' : L2.St} {H' : Hp} {v : V} {u : Value} {s' : Shared}, Inv (cxOf CX P w K mg base N qual (defScope st) f cdv A outer s H E) [] σ' H' s' → RelV v u → Q v H' → CE outer P w H s Q u s' := fun {σ' H' v u s'} J rv q => ⟨v, H', J.os, J.bare, J.base, J.hok, rv, q⟩
  refine wpAny_mono (ht.run [] s1 (start N vs) H _ (inv_start S hr.1.hd e0 (len _ _ _ _ hsp) r x) hq) (fun fl s' hs => ?_) fun e s' hs => hs
  cases fl with
  | ret u =>
    obtain ⟨v, σ', H', J, rv, q⟩ := hs
    exact done J rv q
  | next =>
    obtain ⟨σ', H', J, q⟩ := hs
    exact done (v := V.non) (u := Value.none) J rfl q
  | brk =>
    obtain ⟨_, _, _, q⟩ := hs
    exact q.elim
  | cont =>
    obtain ⟨_, _, _, q⟩ := hs
    exact q.elim
/-- a call of such a def -/
theorem pe_callG {X : Cx} {CX : CXT} {k : Nat} {f : Addr} {fd : FuncData} {ps : List Str} {sp : Sp} {E : XK} {x : Str} {p pos : Pos} {e : Expr} {es : List Expr} {t : TA} (F : FnG X.prog X.w X.K X.mg X.base CX k f fd ps sp) (hr : Calm k X.A) (hg : Gl X x) (hm : X.mg x = some (.ref f)) (hk : PySem.W.keepIn X.K (.ref f) = true) (hb : Binds X.K fd ps [])
    (hx : Passes CX X E) (ha : PA X (e :: es) t) (hdb : (x == ("__debug__" : Str)) = false := by decide) (he : starEach (e :: es) X.env = (false, eval e X.env) :: starEach es X.env := by rfl) (hpl : (backTo pos (starEach es X.env)).any (·.1) = false := by rfl) :
    PE X (.Call (.Name x p) (e :: es) [] pos) (tCall sp [] E t) := by
  refine ⟨fun pins s σ H Q I h => wpAny_Call_Name_kw (ld_glob I hg hm ?_ hdb)⟩
  refine PySem.W.callWith_K (h₀ := X.base) I.ok.mod.kin hk (thn (ha.run pos pins s σ H _ I h) fun us s1 ⟨vs, H1, I1, r, q⟩ => ⟨I1.kIn, ?_⟩) he hpl
  have q : sp (vs ++ []) H1 Q E := q
  rw [List.append_nil] at q
  have b := hb s1 us I1.kIn (by rw [List.append_nil, ← r.length]; exact F.len _ _ _ _ q)
  rw [List.append_nil] at b
  refine wpAny_call (codeAny_mono (F.run X.A X.stack s1 H1 ⟨us, []⟩ us vs Q E hr I1.env0 b r q) fun fl s' hq => ?_)
  cases fl with
  | error u => exact hx pins σ H1 s1 u s' I1 hq
  | ok fl =>
    cases fl with
    | ret u => exact I1.after hq
    | next => exact False.elim hq
    | brk => exact False.elim hq
    | cont => exact False.elim hq

/-! the end: from the law's promise to the walk -/
/-- the abstract heap at the law's entry: the script alone, where the written part doesn't have it -/
def scriptH (K : PySem.W.Frag) (a : Addr) (o : Obj) (ns : List Int) : Hp := fun b => if b = a then (match K.lookup a with | none => some (.frz o (.lst (ns.map V.int))) | some _ => none) else none
theorem scriptH_ne {K : PySem.W.Frag} {a b : Addr} {o : Obj} {ns : List Int} (h : b ≠ a) : scriptH K a o ns b = none := if_neg h
theorem scriptH_some {K : PySem.W.Frag} {a b : Addr} {o : Obj} {ns : List Int} {u : HO} (h : scriptH K a o ns b = some u) : b = a ∧ u = .frz o (.lst (ns.map V.int)) ∧ K.lookup a = none := by
  by_cases e : b = a
  · subst e
    unfold scriptH at h
    rw [if_pos rfl] at h
    cases q : K.lookup b with
    | none =>
      rw [q] at h
      cases h
      exact ⟨rfl, rfl, rfl⟩
    | some o' =>
      rw [q] at h
      cases h
  · rw [scriptH_ne e] at h
    cases h
theorem law_callG {P : Program} {w : World} {K : PySem.W.Frag} {mg mb : Str → Option Value} {CX : CXT} {k : Nat} {fa a : Addr} {fd : FuncData} {x : Str} {sp : Sp} {s₁ : Shared} {vs : List Value} {ns : List Int}
    (KX : K.In s₁.heap) (hns : s₁.heap.Ns mainGlobals mg) (hb : s₁.heap.Ns builtinsNs mb) (hbb : ∀ x : Str, x ≠ "__name__" → mb x = bootBuiltins x) (hlim : s₁.heap.NoLimit) (hg : s₁.gens = #[])
    (ha : s₁.heap.get? a = some { cls := .type "list", data := .seq vs.toArray }) (hi : IntsAre vs ns) (hl : ns.length ≤ sizeLine) (hr : Room k callerA)
    (hmods : ∃ mm, s₁.heap.Ns sysModules mm) (F : ∀ base : Heap, K.In base → base.Ns mainGlobals mg → (∃ o, base.get? sysModules = some o) → FnG P w K mg base CX k fa fd [x] sp) (hbind : ∀ (s : Shared) (u : Value), BindsTo s fd ⟨[u], []⟩ [(x, u)])
    (hsp : ∀ H : Hp, SqL K H a (ns.map V.int) → sp [.ref a] H (fun v _ => v = .bl true) fun _ _ _ => False) (hCX : ∀ H e s', CX [] H s₁ (fun _ _ _ => False) e s' → False) :
    codeAny (model P w) callerA (.call (.ref fa) ⟨[.ref a], []⟩) (fun r s' => r = .ok (.ret (.bool true)) ∧ OldK s₁.heap s'.heap ∧ s'.os = s₁.os ∧ AllBare s'.gens) s₁ := by
  have rv := vals_ints hi
  have len : vs.length ≤ sizeLine := by
    rw [hi.length]
    exact hl
  generalize ho : ({ cls := .type "list", data := .seq vs.toArray } : Obj) = o at ha
  generalize hH : scriptH K a o ns = H
  have hs : ∀ {b u}, H b = some u → b = a ∧ u = .frz o (.lst (ns.map V.int)) ∧ K.lookup a = none := fun {b u} q => scriptH_some (by rw [hH]; exact q)
  -- the script, read
  have hS : SqL K H a (ns.map V.int) := by
    cases q : K.lookup a with
    | some o' =>
      have e := KX a o' q
      rw [ha] at e
      cases e
      subst ho
      exact .inr ⟨_, vs.toArray, _, q, rfl, rfl, rfl, by rw [List.size_toArray]; exact len, by simpa using rv⟩
    | none => exact .inl (.inr ⟨o, by rw [← hH]; unfold scriptH; rw [if_pos rfl, q]⟩)
  have hok : HOk P w H s₁.heap := fun b u q => by
    obtain ⟨rfl, rfl, _⟩ := hs q
    subst ho
    exact ⟨ha, by rw [List.length_map]; exact hl, vs, _, rv, ha⟩
  -- what the base has
  have stay : ∀ {b : Addr} {u : Obj}, s₁.heap.get? b = some u → H b = none → (hidT s₁.heap H).get? b = some u := fun e n => hidT_get e n
  have noDict : ∀ {b : Addr} {u : Obj} {es : Array DictEntry} {ep : Nat}, s₁.heap.get? b = some u → u.data = .dict es ep → H b = none := fun {b u es ep} e d => by
    cases q : H b with
    | none => rfl
    | some u' =>
      obtain ⟨rfl, _⟩ := hs q
      rw [ha] at e
      cases e
      subst ho
      cases d
  have nsT : ∀ {b : Addr} {m : Str → Option Value}, s₁.heap.Ns b m → (hidT s₁.heap H).Ns b m := fun {b m} ⟨u, es, ep, e, d, r⟩ => ⟨u, es, ep, stay e (noDict e d), d, r⟩
  have KT : K.In (hidT s₁.heap H) := fun b u e => stay (KX b u e) (by
    cases q : H b with
    | none => rfl
    | some u' =>
      obtain ⟨rfl, _, n⟩ := hs q
      rw [n] at e
      cases e)
  have M : Mod K mg (hidT s₁.heap H) := ⟨KT, nsT hns, ⟨mb, nsT hb, hbb⟩, let ⟨mc, h1, h2⟩ := hlim; ⟨mc, nsT h1, h2⟩⟩
  have e0 : Env0 P w K mg (hidT s₁.heap H) callerA [] s₁ H := ⟨rfl, M, fun b u e => of_hidT e, Nat.le_of_eq (hidT_size _ _), trivial, fun b z => (nomatch z), hok, .of_eq hg⟩
  refine codeAny_mono ((F _ KT (nsT hns) (let ⟨_, u, _, _, e, d, _⟩ := hmods; ⟨u, stay e (noDict e d)⟩)).run callerA [] s₁ H ⟨[.ref a], []⟩ [.ref a] [.ref a] _ _ ⟨hr, rfl⟩ e0 (hbind s₁ (.ref a)) (.cons rfl .nil) (hsp H hS)) fun r s' h => ?_
  cases r with
  | error e => exact (hCX H e s' h).elim
  | ok fl =>
    cases fl with
    | next => exact False.elim h
    | brk => exact False.elim h
    | cont => exact False.elim h
    | ret u =>
      obtain ⟨v, H', os, bare, un, hok', r', q⟩ := h
      have q' : v = .bl true := q
      subst q'
      obtain rfl : u = Value.bool true := r'
      refine ⟨rfl, OldK.of_keep fun b o' e => ?_, os, bare⟩
      cases q : H b with
      | none => exact un.keep b o' e q (fun z => nomatch z) (fun z => nomatch z)
      | some u' =>
        obtain ⟨rfl, rfl, _⟩ := hs q
        obtain ⟨e1, _⟩ := hok b _ q
        obtain ⟨e2, _⟩ := hok' b _ (un.frzs b o _ q)
        rw [e] at e1
        cases e1
        exact e2
theorem walkG {l : PySem.W.OpenLaw} {n k : Nat} {q : Program} {loose : List Str} {XP : (Str → Option Value) → Heap → Prop} {YP : World → Heap → Prop} {d : DefRec} {K : Params → PySem.W.Frag} {CX : World → CXT} {sp : World → Sp} {x : Str}
    (hn : l.most = some n) (hn2 : n ≤ sizeLine) (hdf : d.params.defaults = []) (hr : Room k callerA) (hq : importsNone q = true) (hY : ∀ (w : World) (h : Heap), YP w h → (K w.params).In h)
    (F : ∀ (w : World) (mg : Str → Option Value) (fa : Addr) (h : Heap), (K w.params).In h → h.Ns mainGlobals mg → mg d.name = some (.ref fa) →
      ∃ fd : FuncData, (∀ (s : Shared) (u : Value), BindsTo s fd ⟨[u], []⟩ [(x, u)]) ∧ ∀ base : Heap, (K w.params).In base → base.Ns mainGlobals mg → (∃ o, base.get? sysModules = some o) → FnG l.prog w (K w.params) mg base (CX w) k fa fd [x] (sp w))
    (hsp : ∀ (w : World) (H : Hp) (a : Addr) (ns : List Int), ns.length ≤ n → SqL (K w.params) H a (ns.map V.int) → sp w [.ref a] H (fun v _ => v = .bl true) fun _ _ _ => False)
    (hCX : ∀ (w : World) (H : Hp) (s : Shared) (e : Value) (s' : Shared), CX w [] H s (fun _ _ _ => False) e s' → False) : PySem.W.WalkO q loose XP YP l.row.toRowW d [] (fun f vs => PySem.call f vs) := by
  refine Att.attach_call hn hdf fun w s₀ s₁ mg mb fa o pm cd doc a vs ns G Y ho hd hcd hmg hobj hints hlen hg => ?_
  obtain ⟨fd, hb, hF⟩ := F w mg fa _ (hY w _ Y) G.T.g hmg
  exact law_callG (hY w _ Y) G.T.g G.T.b G.T.builtins G.T.nolimit hg hobj hints (Nat.le_trans hlen hn2) hr (let ⟨mm, h1, _⟩ := (G.T.seer hq).mods; ⟨mm, h1⟩) hF hb (fun H hS => hsp w H a ns hlen hS) fun H e s' => hCX w H s₁ e s'
end Cy

set_option Elab.async false
set_option linter.all false
set_option maxRecDepth 100000
set_option maxHeartbeats 2000000
namespace Cy
open PySem PySem.Spec PyProof.Rows L2 Evl
/-! repr of data -/
mutual
def toQ : D → PyData
  | .non => .none
  | .bl b => .bool b
  | .int i => .int i
  | .str s => .str s
  | .lst xs => .list (toQs xs)
  | .tup xs => .tuple (toQs xs)
  | .dic _ => .dict []
  | .obj _ _ => .none
  | .scr _ => .none
  | .exc _ => .none
  | .ptr _ => .none
def toQs : List D → List PyData
  | [] => []
  | x :: xs => toQ x :: toQs xs
end
mutual
def shOk : D → Bool
  | .lst xs => shOks xs
  | .tup xs => shOks xs
  | .dic es => es.isEmpty
  | .obj _ _ => false
  | .scr _ => false
  | .exc _ => false
  | .ptr _ => false
  | _ => true
def shOks : List D → Bool
  | [] => true
  | x :: xs => shOk x && shOks xs
end
section
variable {X : Cx} {pins : List (Addr × Obj)} {σ : L2.St} {F H : Hp} {s : Shared}
mutual
theorem rp_reads (I : Inv X pins σ H s) (hsm : ∃ o, X.base.get? sysModules = some o) (e : Ex F H) : ∀ {d : D} {v : V} {u : Value}, Rp X.K F v d → RelV v u → shOk d = true → ∃ as, Reads s.heap u (toQ d) as ∧ sysModules ∉ as
  | .non, _, _, h, r, _ => by
    cases h
    cases r
    unfold toQ
    exact ⟨_, Reads.none, fun z => nomatch z⟩
  | .bl b, _, _, h, r, _ => by
    cases h
    cases r
    unfold toQ
    exact ⟨_, Reads.bool b, fun z => nomatch z⟩
  | .int i, _, _, h, r, _ => by
    cases h
    obtain ⟨t, rfl⟩ := r
    unfold toQ
    exact ⟨_, Reads.int i t, fun z => nomatch z⟩
  | .str x, _, _, h, r, _ => by
    cases h
    obtain ⟨t, rfl⟩ := r
    unfold toQ
    exact ⟨_, Reads.str x t, fun z => nomatch z⟩
  | .lst ds, _, _, h, r, q => by
    cases h with
    | lst ha rs =>
      cases r
      obtain ⟨its, rv, ⟨o, n, ho, hc, _, hd⟩, _⟩ := I.list (sq_of (e _ _ ha))
      obtain ⟨as, hr, hn⟩ := rpa_reads I hsm e rs rv (by unfold shOk at q; exact q)
      unfold toQ
      refine ⟨_, Reads.list ho hc hd hr, fun z => ?_⟩
      rcases List.mem_cons.mp z with z | z
      · obtain ⟨ob, eb⟩ := hsm
        have := (I.bs _ ob eb).2
        rw [z, e _ _ ha] at this
        cases this
      · exact hn z
  | .tup ds, _, _, h, r, q => by
    cases h with
    | tup ha rs =>
      cases r
      obtain ⟨its, rv, ⟨o, ho, hc, n, hd⟩, _⟩ := I.tuple (st_of (e _ _ ha))
      obtain ⟨as, hr, hn⟩ := rpa_reads I hsm e rs rv (by unfold shOk at q; exact q)
      unfold toQ
      exact ⟨_, Reads.tuple ho hc hd hr, hn⟩
  | .dic es, _, _, h, r, q => by
    cases h with
    | dic ha r1 r2 =>
      cases r
      unfold shOk at q
      cases es with
      | cons p es => cases q
      | nil =>
        rename_i a kvs
        have hk : kvs = [] := by
          cases kvs with
          | nil => rfl
          | cons p kvs => cases r1
        subst hk
        obtain ⟨_, hs, vs, hkv, o, es', ep, ho, hx, hd, _, hp, _⟩ := I.hok _ _ (e _ _ ha)
        cases hkv
        have he : es'.toList = [] := by
          cases hq : es'.toList with
          | nil => rfl
          | cons p ps =>
            rw [hq] at hp
            cases hp
        unfold toQ
        refine ⟨_, Reads.dict (kvs := []) (as := []) (bs := []) ho hx.1 hd ?_ ?_, fun z => ?_⟩
        · rw [he]
          exact .nil
        · rw [he]
          exact .nil
        · rcases List.mem_cons.mp z with z | z
          · rw [← z] at hs
            cases hs
          · cases z
  | .obj _ _, _, _, _, _, q => by unfold shOk at q; cases q
  | .scr _, _, _, _, _, q => by unfold shOk at q; cases q
  | .exc _, _, _, _, _, q => by unfold shOk at q; cases q
  | .ptr _, _, _, _, _, q => by unfold shOk at q; cases q
theorem rpa_reads (I : Inv X pins σ H s) (hsm : ∃ o, X.base.get? sysModules = some o) (e : Ex F H) : ∀ {ds : List D} {vs : List V} {us : List Value}, RpA X.K F vs ds → Vals vs us → shOks ds = true → ∃ as, ReadsAll s.heap us (toQs ds) as ∧ sysModules ∉ as
  | [], _, _, h, r, _ => by
    cases h
    cases r
    unfold toQs
    exact ⟨_, ReadsAll.nil, fun z => nomatch z⟩
  | d :: ds, _, _, h, r, q => by
    cases h with
    | cons h1 h2 =>
      cases r with
      | cons r1 r2 =>
        unfold shOks at q
        rw [Bool.and_eq_true] at q
        obtain ⟨as, q1, n1⟩ := rp_reads I hsm e h1 r1 q.1
        obtain ⟨bs, q2, n2⟩ := rpa_reads I hsm e h2 r2 q.2
        unfold toQs
        exact ⟨_, ReadsAll.cons q1 q2, fun z => (List.mem_append.mp z).elim n1 n2⟩
end
end
/-- repr(x), x a list, a tuple or an empty dict -/
def rReprD (K : PySem.W.Frag) : List V → Hp → VK → Prop := fun xs H Q => ∃ (F : Hp) (a : Addr) (d : D), xs = [.ref a] ∧ Ex F H ∧ Rp K F (.ref a) d ∧ shOk d = true ∧ PyData.showable (toQ d) = true ∧ (toQ d).depth ≤ 60 ∧ (toQ d).shown.length ≤ sizeLine ∧ Q (.str (toQ d).shown) H
theorem call_reprD {X : Cx} (hg : X.A.guards = some []) (hu : X.A.units + 64 < cLine) (hsm : ∃ o, X.base.get? sysModules = some o) : CallR X (.builtin "repr") (rReprD X.K) := by
  intro pins s σ H xs us Q I r h
  obtain ⟨F, a, d, rfl, e, hr, hs, hw, hd, hz, q⟩ := h
  cases r with
  | cons rx rr =>
    cases rr
    cases rx
    obtain ⟨as, R, n⟩ := rp_reads I hsm e hr rfl hs
    exact repr_of_reads' R hw (fun _ => n) hg (by omega) (fun _ _ z => z) (fun h' u tk k => ⟨.str _, H, I.kept (t' := tk) k, ⟨_, rfl⟩, q⟩) hz
def gReprA (K : PySem.W.Frag) := orC gRepr (rReprD K)
theorem call_gReprA {X : Cx} (hg : X.A.guards = some []) (hu : X.A.units + 64 < cLine) (hsm : ∃ o, X.base.get? sysModules = some o) : CallR X (.builtin "repr") (gReprA X.K) := call_gRepr.or (call_reprD hg hu hsm)
theorem n_reprD {K : PySem.W.Frag} {d : D} (hr : ∀ {F : Hp} {v : V}, Rp K F v d → ∃ a, v = .ref a) (hs : shOk d = true) (hw : PyData.showable (toQ d) = true) (hd : (toQ d).depth ≤ 60) (hz : (toQ d).shown.length ≤ sizeLine) : OpN K (gReprA K) [d] (.str (toQ d).shown) := opn_r (op1_v fun {F H vs} e r => by
  obtain ⟨v, rfl, r1⟩ := rpa1 r
  obtain ⟨a, rfl⟩ := hr r1
  exact ⟨.str _, .str _, fun Q q => ⟨F, a, d, rfl, e, r1, hs, hw, hd, hz, q⟩⟩)
end Cy

set_option Elab.async false
set_option linter.all false
set_option maxRecDepth 100000
set_option maxHeartbeats 2000000
namespace Cy
open PySem L2 Evl
section
variable {K : PySem.W.Frag} {G : List Sl} {ta tb te : TE} {l m : List D}
theorem rpa_rep {F : Hp} {vs : List V} {ds : List D} (r : RpA K F vs ds) : ∀ n : Nat, RpA K F (List.replicate n vs).flatten (List.replicate n ds).flatten
  | 0 => .nil
  | n + 1 => by
    rw [List.replicate_succ, List.replicate_succ, List.flatten_cons, List.flatten_cons]
    exact r.app (rpa_rep r n)
/-- xs * n -/
theorem d_repL {n : Int} (h : 0 ≤ n ∧ n < 1000000) (hz : l.length * n.toNat ≤ 100000) : Op2O K gMul (.lst l) (.int n) (List.replicate n.toNat l).flatten := .mk fun {F H x y} e r1 r2 Q q => by
  cases r1 with
  | lst h1 s1 =>
    cases r2
    exact Or.inr ⟨_, n, _, rfl, rfl, e _ _ h1, by omega, by omega, sz_of (by rw [s1.length]; exact hz), fun p hp => q p _ _ (Ex.new hp) hp upd_same (rpa_rep s1 n.toNat)⟩
/-- [w] * int(b) -/
def wordIf (w : Str) (b : Bool) : List D := if b then [.str w] else []
theorem e_word {w : Str} {b : Bool} (h : EvD K te G (.bl b)) : EvD K (tOp gMul (tLst (tCons (tC (.str w)) tNil)) (tCB gInt (tCons te tNil))) G (.lst (wordIf w b)) := by
  refine e_is (e_share (o_op (e_share (o_lst (ds := [.str w]) (s_cons e_str s_nil) (by show 1 ≤ 100000; decide))) (e_cb (s_cons h s_nil) n_intB) (d_repL ?_ ?_))) ?_
  · cases b <;> decide
  · cases b
    · show 1 * 0 ≤ 100000
      decide
    · show 1 * 1 ≤ 100000
      decide
  · cases b <;> rfl
theorem e_cat (h1 : EvD K ta G (.lst l)) (h2 : EvD K tb G (.lst m)) (hz : l.length + m.length ≤ 100000) : EvD K (tOp (gAdd K) ta tb) G (.lst (l ++ m)) := e_share (o_op h1 h2 (d_catL hz))
/-- two words that don't come -/
theorem e_none2 {i : Nat} {t1 t2 : TE} {w1 w2 : Str} (h : G[i]? = some (.dat (.lst l))) (h1 : EvD K t1 G (.bl false)) (h2 : EvD K t2 G (.bl false)) (hz : l.length ≤ 1000) :
    EvD K (tOp (gAdd K) (tOp (gAdd K) (tVar i) (tOp gMul (tLst (tCons (tC (.str w1)) tNil)) (tCB gInt (tCons t1 tNil)))) (tOp gMul (tLst (tCons (tC (.str w2)) tNil)) (tCB gInt (tCons t2 tNil)))) G (.lst l) := by
  have a := e_cat (e_cat (e_var h) (e_word (w := w1) h1) (by show l.length + 0 ≤ 100000; omega)) (e_word (w := w2) h2) (by
    show (l ++ []).length + 0 ≤ 100000
    rw [List.append_nil]
    omega)
  refine e_is a ?_
  show D.lst ((l ++ []) ++ []) = _
  rw [List.append_nil, List.append_nil]
/-- the first of two comes, the other doesn't -/
theorem e_one2 {i : Nat} {t1 t2 : TE} {w1 w2 : Str} (h : G[i]? = some (.dat (.lst l))) (h1 : EvD K t1 G (.bl true)) (h2 : EvD K t2 G (.bl false)) (hz : l.length ≤ 1000) :
    EvD K (tOp (gAdd K) (tOp (gAdd K) (tVar i) (tOp gMul (tLst (tCons (tC (.str w1)) tNil)) (tCB gInt (tCons t1 tNil)))) (tOp gMul (tLst (tCons (tC (.str w2)) tNil)) (tCB gInt (tCons t2 tNil)))) G (.lst (l ++ [.str w1])) := by
  have a := e_cat (e_cat (e_var h) (e_word (w := w1) h1) (by show l.length + 1 ≤ 100000; omega)) (e_word (w := w2) h2) (by
    show (l ++ [_]).length + 0 ≤ 100000
    rw [List.length_append]
    show l.length + 1 + 0 ≤ 100000
    omega)
  refine e_is a ?_
  show D.lst ((l ++ [.str w1]) ++ []) = _
  rw [List.append_nil]
theorem relv_ref {a : Addr} : ∀ u, RelV (.ref a) u → u = .ref a := fun u h => by
  cases h
  rfl
theorem relv_ty {T : String} : ∀ u, RelV (.ty T) u → u = .type T := fun u h => by
  cases h
  rfl
/-- isinstance(e, X), e kept in slot 0 -/
theorem e_kind {i : Nat} {C X : Addr} {b : Bool} (h : G[i]? = some (.dat (.exc C))) (hx : ExcC K C) (hk : PySem.W.kitOne K (.ref C) (.ref X) = some b) : EvD K (tCB (gIsi K) (tCons (tVar i) (tCons (tC (.ref X)) tNil))) G (.bl b) := e_isK (D' := X) (e_var h) hx relv_ref hk
theorem e_kindT {i : Nat} {C : Addr} {T : String} {b : Bool} (h : G[i]? = some (.dat (.exc C))) (hx : ExcC K C) (hk : PySem.W.kitOne K (.ref C) (.type T) = some b) : EvD K (tCB (gIsi K) (tCons (tVar i) (tCons (tC (.ty T)) tNil))) G (.bl b) := e_isK (D' := C) (e_var h) hx relv_ty hk
end
end Cy

set_option Elab.async false
set_option linter.all false
set_option maxRecDepth 100000
set_option maxHeartbeats 2000000
namespace Cy
open PySem PySem.Spec PyProof.Rows L2 Evl
/-! o.m(..) that may raise, at the slots where it stands -/
section
variable {X : Cx} {CX : CXT} {k : Nat} {f C : Addr} {fd : FuncData} {ps : List Str} {sp : Sp} {E : L2.St → XK} {m : Str} {pos apos : Pos} {o e : Expr} {es : List Expr} {ta : TE} {t : TA}
def tMethE (C : Addr) (m : Str) (sp : Sp) (E : L2.St → XK) (ta : TE) (t : TA) : TE := fun σ H Q => tMeth C m sp [] (E σ) ta t σ H Q
theorem pe_methE {pl : Sem Bool} (he : PE X o ta) (c : Cls X.K C) (hm : Meth X.K C m f) (F : FnOk X.prog X.w X.K X.mg X.base CX k f fd ps sp) (hr : Room k X.A) (hb : Binds X.K fd ps []) (hx : ∀ σ, PassesAt CX X σ (E σ)) (ha : PA X (e :: es) t)
    (hst : starEach (e :: es) X.env = (false, eval e X.env) :: starEach es X.env := by rfl) (hpl : (backTo pos (starEach es X.env)).any (·.1) = false := by rfl)
    (ht : eval (.Call (.Attribute o m apos) (e :: es) [] pos) X.env = (do
      let ov ← eval o X.env
      standAt apos.atName
      let (f, first) ← holding [ov] (getMethod ov m pl)
      callWith pos f first (backTo pos (starEach (e :: es) X.env)) (backToKw pos (keywordEach [] X.env))) := by rfl) :
    PE X (.Call (.Attribute o m apos) (e :: es) [] pos) (tMethE C m sp E ta t) := by
  refine ⟨fun pins s σ H Q I h => PySem.W.methodCall_KW (pl := pl) (thn (he.run pins s σ H _ I h) fun u s1 ⟨x, H1, I1, rx, a, dx, fs, ex, ea, l, q⟩ => ?_) ht⟩
  subst ex
  obtain rfl : u = Value.ref a := rx
  refine getmeth_ok I1 ea c hm l (PySem.W.callWith_K (first := [.ref a]) (h₀ := X.base) I.ok.mod.kin hm.kp (thn (ha.run pos pins s1 σ H1 _ I1 q) fun us s2 ⟨vs, H2, I2, r, q2⟩ => ⟨I2.kIn, ?_⟩) hst hpl)
  have q3 : sp (.ref a :: (vs ++ [])) H2 Q (E σ) := q2
  rw [List.append_nil] at q3
  exact run_fnS (us := .ref a :: us) (vs := .ref a :: vs) F hr hb (hx σ) I2 (.cons rfl r) q3
end
section
variable {K : PySem.W.Frag} {G : List Sl} {to : TE} {tr : TA} {ds : List D} {d : D} {C C' : Addr} {m : Str} {fs : List (Str × D)}
theorem rs_meth {R : List D → Res → Prop} (h : EvD K to G (.obj C' fs)) (hm : fs.lookup m = none) (hr : EvS K tr G ds) (hR : R (.obj C' fs :: ds) (.exc C)) : RsD K (fun E => tMethE C' m (spX K R) E to tr) G C := .mk fun {H0 F0 F H σ} En E Q q =>
  h En _ fun v F1 H1 E1 f1 g1 n1 r1 => by
    have r1' := r1
    cases r1' with
    | obj h1 h2 h3 =>
      refine ⟨_, _, _, rfl, E1.ef _ _ h1, lookup_none h2 hm, hr E1 _ fun vs F2 H2 E2 f2 g2 n2 r2 => ?_⟩
      refine ⟨F2, .obj C' fs :: ds, .exc C, E2.ef, by rw [List.append_nil]; exact .cons (r1.mono f2) r2, hR, fun F3 H3 ro => ?_⟩
      exact q F3 H3 (E2.grow ro.e1 ro.e0 ro.ef ro.nf) ((f1.trans f2).trans ro.e1) ((g1.trans g2).trans ro.e0) ((n1.trans n2 g1).trans ro.nf (g1.trans g2))
theorem ev_methE {R : List D → Res → Prop} {E : L2.St → XK} (h : EvD K to G (.obj C' fs)) (hm : fs.lookup m = none) (hr : EvS K tr G ds) (hR : R (.obj C' fs :: ds) (.ok d)) : EvD K (tMethE C' m (spX K R) E to tr) G d := .mk fun {H0 F0 F H σ} En Q q =>
  h En _ fun v F1 H1 E1 f1 g1 n1 r1 => by
    have r1' := r1
    cases r1' with
    | obj h1 h2 h3 =>
      refine ⟨_, _, _, rfl, E1.ef _ _ h1, lookup_none h2 hm, hr E1 _ fun vs F2 H2 E2 f2 g2 n2 r2 => ?_⟩
      refine ⟨F2, .obj C' fs :: ds, .ok d, E2.ef, by rw [List.append_nil]; exact .cons (r1.mono f2) r2, hR, fun w F3 H3 ro r3 => ?_⟩
      exact q w F3 H3 (E2.grow ro.e1 ro.e0 ro.ef ro.nf) ((f1.trans f2).trans ro.e1) ((g1.trans g2).trans ro.e0) ((n1.trans n2 g1).trans ro.nf (g1.trans g2)) r3
/-- the same where nothing is caught: a method that may raise, which hands something back -/
theorem e_methX {R : List D → Res → Prop} {X : XK} (h : EvD K to G (.obj C' fs)) (hm : fs.lookup m = none) (hr : EvS K tr G ds) (hR : R (.obj C' fs :: ds) (.ok d)) : EvD K (tMeth C' m (spX K R) [] X to tr) G d := ev_methE (E := fun _ => X) h hm hr hR
end
end Cy
namespace Cy
open PySem PySem.Spec PyProof.Rows L2 Evl
theorem Calm.mono {j k : Nat} {A : Around} (c : Calm k A) (h : j ≤ k) : Calm j A := ⟨c.1.mono h, c.2⟩
end Cy

set_option Elab.async false
set_option linter.all false
set_option maxRecDepth 100000
set_option maxHeartbeats 2000000
namespace Cy
open PySem PySem.Spec PyProof.Rows L2 Evl
/-! things that change: a store of cells beside the data -/
inductive Nd where
  | lst (l : List D)
  | dic (es : List (Key × D))
  | ins (C : Addr) (fs : List (Str × D))
abbrev Sto := Addr → Option Nd
def updM (M : Sto) (a : Addr) (n : Nd) : Sto := fun b => if b = a then some n else M b
theorem updM_same {M : Sto} {a : Addr} {n : Nd} : updM M a n a = some n := if_pos rfl
theorem updM_ne {M : Sto} {a b : Addr} {n : Nd} (h : b ≠ a) : updM M a n b = M b := if_neg h
inductive BearN (K : PySem.W.Frag) (F : Hp) : HO → Nd → Prop
  | lst {xs : List V} {l : List D} : RpA K F xs l → BearN K F (.lst xs) (.lst l)
  | dic {kvs : List (Key × V)} {es : List (Key × D)} : kvs.map (fun p => p.1) = es.map (fun p => p.1) → RpA K F (kvs.map fun p => p.2) (es.map fun p => p.2) → BearN K F (.dK kvs) (.dic es)
  | ins {C dx : Addr} {gs : List (Str × V)} {fs : List (Str × D)} : gs.map (fun p => p.1) = fs.map (fun p => p.1) → RpA K F (gs.map fun p => p.2) (fs.map fun p => p.2) → BearN K F (.ins C dx gs) (.ins C fs)
theorem BearN.mono {K : PySem.W.Frag} {F F' : Hp} (e : Ex F F') {o : HO} {n : Nd} (h : BearN K F o n) : BearN K F' o n := by
  cases h with
  | lst r => exact .lst (r.mono e)
  | dic r s => exact .dic r (s.mono e)
  | ins n r => exact .ins n (r.mono e)
theorem BearN.noTup {K : PySem.W.Frag} {F : Hp} {xs : List V} {n : Nd} (h : BearN K F (.tup xs) n) : False := by
  cases h
def Cells (K : PySem.W.Frag) (F : Hp) (M : Sto) (H : Hp) : Prop := ∀ a n, M a = some n → F a = none ∧ ∃ o, H a = some o ∧ BearN K F o n
structure EnM (K : PySem.W.Frag) (H0 F0 F : Hp) (M : Sto) (H : Hp) (σ : L2.St) (G : List Sl) : Prop where
  en : En K H0 F0 F H σ G
  st : Cells K F M H
  h0 : ∀ a n, M a = some n → H0 a = none
  ow : ∀ (i : Nat) (w : Ow) (p : Addr), G[i]? = some (.own w) → σ[i]? = some (some (.ref p)) → M p = none
section
variable {K : PySem.W.Frag} {H0 F0 F F' H H' : Hp} {M M' : Sto} {σ : L2.St} {G G' : List Sl}
theorem Cells.mono (c : Cells K F M H) (e1 : Ex F F') (e2 : Ex H H') (n : Nw F F' H) : Cells K F' M H' := fun a m h => by
  obtain ⟨h1, o, h2, h3⟩ := c a m h
  refine ⟨?_, o, e2 _ _ h2, h3.mono e1⟩
  cases q : F' a with
  | none => rfl
  | some u =>
    rcases n a u q with z | z
    · rw [h1] at z
      cases z
    · rw [h2] at z
      cases z
theorem EnM.grow (E : EnM K H0 F0 F M H σ G) (e1 : Ex F F') (e2 : Ex H H') (e3 : Ex F' H') (n : Nw F F' H) : EnM K H0 F0 F' M H' σ G :=
  ⟨E.en.grow e1 e2 e3 n, E.st.mono e1 e2 n, E.h0, E.ow⟩
theorem EnM.withG (E : EnM K H0 F0 F M H σ G) (E' : En K H0 F0 F' H' σ G) (e1 : Ex F F') (e2 : Ex H H') (n : Nw F F' H) : EnM K H0 F0 F' M H' σ G := ⟨E', E.st.mono e1 e2 n, E.h0, E.ow⟩
theorem EnM.setD (E : EnM K H0 F0 F M H σ G) {v : V} {d : D} (r : Rp K F v d) (i : Nat) : EnM K H0 F0 F M H (σ.set i (some v)) (G.set i (.dat d)) := ⟨E.en.setD r i, E.st, E.h0, fun j w p h1 h2 => by
  by_cases q : i = j
  · subst q
    by_cases hl : i < G.length
    · rw [List.getElem?_set_self hl] at h1
      cases h1
    · rw [List.getElem?_eq_none (by rw [List.length_set]; omega)] at h1
      cases h1
  · rw [List.getElem?_set_ne q] at h1 h2
    exact E.ow j w p h1 h2⟩
theorem EnM.weak (E : EnM K H0 F0 F M H σ G) (w : Wk G G') : EnM K H0 F0 F M H σ G' := ⟨E.en.weak w, E.st, E.h0, fun j u p h1 h2 => by
  rcases w.get h1 with z | z
  · cases z
  · exact E.ow j u p z h2⟩
/-- a cell changes -/
theorem EnM.put (E : EnM K H0 F0 F M H σ G) {a : Addr} {n n' : Nd} (h : M a = some n) {o' : HO} (r : BearN K F o' n') : EnM K H0 F0 F (updM M a n') (upd H a o') σ G := by
  obtain ⟨h1, o, h2, h3⟩ := E.st a n h
  have h4 := E.h0 a n h
  refine ⟨⟨E.en.dat, fun i w q => ?_, E.en.dis, fun z u q => ?_, fun z u q => ?_, E.en.e1, E.en.nf, E.en.len⟩, fun b m q => ?_, fun b m q => ?_, fun i w p q1 q2 => ?_⟩
  · obtain ⟨p, u, a1, b1, c1, d1, r1⟩ := E.en.own i w q
    have hne : p ≠ a := fun z => by
      subst z
      have := E.ow i w p q a1
      rw [h] at this
      cases this
    exact ⟨p, u, a1, b1, c1, by rw [upd_ne hne]; exact d1, r1⟩
  · have hne : z ≠ a := fun y => by
      subst y
      rw [h4] at q
      cases q
    rw [upd_ne hne]
    exact E.en.e0 z u q
  · have hne : z ≠ a := fun y => by
      subst y
      rw [h1] at q
      cases q
    rw [upd_ne hne]
    exact E.en.ef z u q
  · by_cases hb : b = a
    · subst hb
      rw [updM_same] at q
      cases q
      exact ⟨h1, o', upd_same, r⟩
    · rw [updM_ne hb] at q
      obtain ⟨k1, u, k2, k3⟩ := E.st b m q
      exact ⟨k1, u, by rw [upd_ne hb]; exact k2, k3⟩
  · by_cases hb : b = a
    · subst hb
      exact h4
    · rw [updM_ne hb] at q
      exact E.h0 b m q
  · have hp := E.ow i w p q1 q2
    have hb : p ≠ a := fun z => by
      subst z
      rw [h] at hp
      cases hp
    rw [updM_ne hb]
    exact hp
/-- a new cell -/
theorem EnM.new (E : EnM K H0 F0 F M H σ G) {a : Addr} {n : Nd} {o : HO} (h : H a = some o) (hF : F a = none) (h0 : H0 a = none) (hw : ∀ (i : Nat) (w : Ow), G[i]? = some (.own w) → σ[i]? ≠ some (some (.ref a))) (r : BearN K F o n) : EnM K H0 F0 F (updM M a n) H σ G := by
  refine ⟨E.en, fun b m q => ?_, fun b m q => ?_, fun i w p q1 q2 => ?_⟩
  · by_cases hb : b = a
    · subst hb
      rw [updM_same] at q
      cases q
      exact ⟨hF, o, h, r⟩
    · rw [updM_ne hb] at q
      exact E.st b m q
  · by_cases hb : b = a
    · subst hb
      exact h0
    · rw [updM_ne hb] at q
      exact E.h0 b m q
  · have hb : p ≠ a := fun z => by
      subst z
      exact hw i w q1 q2
    rw [updM_ne hb]
    exact E.ow i w p q1 q2
theorem EnM.free (E : EnM K H0 F0 F M H σ G) {a : Addr} (h : H a = none) : M a = none := by
  cases q : M a with
  | none => rfl
  | some n =>
    obtain ⟨_, o, h2, _⟩ := E.st a n q
    rw [h] at h2
    cases h2
theorem EnM.freeO (E : EnM K H0 F0 F M H σ G) {a : Addr} (h : H a = none) : ∀ (i : Nat) (w : Ow), G[i]? = some (.own w) → σ[i]? ≠ some (some (.ref a)) := fun i w q z => by
  obtain ⟨p, u, a1, b1, c1, d1, r1⟩ := E.en.own i w q
  rw [z] at a1
  cases a1
  rw [h] at d1
  cases d1
end

/-! what a view of the store shows -/
mutual
inductive VwD (M : Sto) : D → D → Prop
  | same (d : D) : VwD M d d
  | plst {a : Addr} {l l' : List D} : M a = some (.lst l) → VwA M l l' → VwD M (.ptr a) (.lst l')
  | pdic {a : Addr} {es es' : List (Key × D)} : M a = some (.dic es) → es.map (fun p => p.1) = es'.map (fun p => p.1) → VwA M (es.map fun p => p.2) (es'.map fun p => p.2) → VwD M (.ptr a) (.dic es')
  | pins {a C : Addr} {fs fs' : List (Str × D)} : M a = some (.ins C fs) → fs.map (fun p => p.1) = fs'.map (fun p => p.1) → VwA M (fs.map fun p => p.2) (fs'.map fun p => p.2) → VwD M (.ptr a) (.obj C fs')
  | lst {l l' : List D} : VwA M l l' → VwD M (.lst l) (.lst l')
  | tup {l l' : List D} : VwA M l l' → VwD M (.tup l) (.tup l')
  | dic {es es' : List (Key × D)} : es.map (fun p => p.1) = es'.map (fun p => p.1) → VwA M (es.map fun p => p.2) (es'.map fun p => p.2) → VwD M (.dic es) (.dic es')
inductive VwA (M : Sto) : List D → List D → Prop
  | nil : VwA M [] []
  | cons {d d' : D} {l l' : List D} : VwD M d d' → VwA M l l' → VwA M (d :: l) (d' :: l')
end
theorem VwA.same {M : Sto} : ∀ l : List D, VwA M l l
  | [] => .nil
  | d :: l => .cons (.same d) (VwA.same l)
inductive VwG (M : Sto) : List Sl → List Sl → Prop
  | nil : VwG M [] []
  | keep {s : Sl} {G G' : List Sl} : VwG M G G' → VwG M (s :: G) (s :: G')
  | dat {d d' : D} {G G' : List Sl} : VwD M d d' → VwG M G G' → VwG M (.dat d :: G) (.dat d' :: G')
/-- F with the cells of the store as they stand -/
def seen (M : Sto) (F H : Hp) : Hp := fun a => match M a with
  | some _ => H a
  | none => F a
theorem seen_some {M : Sto} {F H : Hp} {a : Addr} {n : Nd} (h : M a = some n) : seen M F H a = H a := by
  unfold seen
  rw [h]
theorem seen_none {M : Sto} {F H : Hp} {a : Addr} (h : M a = none) : seen M F H a = F a := by
  unfold seen
  rw [h]
/-- F without the cells of the store -/
def unseen (M : Sto) (F : Hp) : Hp := fun a => match M a with
  | some _ => none
  | none => F a
theorem unseen_some {M : Sto} {F : Hp} {a : Addr} {n : Nd} (h : M a = some n) : unseen M F a = none := by
  unfold unseen
  rw [h]
theorem unseen_none {M : Sto} {F : Hp} {a : Addr} (h : M a = none) : unseen M F a = F a := by
  unfold unseen
  rw [h]
section
variable {K : PySem.W.Frag} {H0 F0 F F' H H' : Hp} {M M' : Sto} {σ : L2.St} {G G' : List Sl}
theorem Cells.seen (c : Cells K F M H) : Ex F (seen M F H) := fun a o q => by
  cases h : M a with
  | none => rw [seen_none h]; exact q
  | some n =>
    rw [(c a n h).1] at q
    cases q
mutual
theorem VwD.rp (c : Cells K F M H) : ∀ {d d' : D} {v : V}, VwD M d d' → Rp K F v d → Rp K (Cy.seen M F H) v d'
  | _, _, _, .same d, r => r.mono c.seen
  | _, _, _, .plst h w, r => by
    cases r
    obtain ⟨_, o, h2, h3⟩ := c _ _ h
    cases h3 with
    | lst h4 => exact .lst (by rw [seen_some h]; exact h2) (VwA.rp c w h4)
  | _, _, _, .pdic h e w, r => by
    cases r
    obtain ⟨_, o, h2, h3⟩ := c _ _ h
    cases h3 with
    | dic h4 h5 => exact .dic (by rw [seen_some h]; exact h2) (h4.trans e) (VwA.rp c w h5)
  | _, _, _, .pins h e w, r => by
    cases r
    obtain ⟨_, o, h2, h3⟩ := c _ _ h
    cases h3 with
    | ins h4 h5 => exact .obj (by rw [seen_some h]; exact h2) (h4.trans e) (VwA.rp c w h5)
  | _, _, _, .lst w, r => by
    cases r with
    | lst h r => exact .lst (c.seen _ _ h) (VwA.rp c w r)
  | _, _, _, .tup w, r => by
    cases r with
    | tup h r => exact .tup (c.seen _ _ h) (VwA.rp c w r)
  | _, _, _, .dic e w, r => by
    cases r with
    | dic h r1 r2 => exact .dic (c.seen _ _ h) (r1.trans e) (VwA.rp c w r2)
theorem VwA.rp (c : Cells K F M H) : ∀ {l l' : List D} {vs : List V}, VwA M l l' → RpA K F vs l → RpA K (Cy.seen M F H) vs l'
  | _, _, _, .nil, r => by
    cases r
    exact .nil
  | _, _, _, .cons h w, r => by
    cases r with
    | cons r1 r2 => exact .cons (VwD.rp c h r1) (VwA.rp c w r2)
end
theorem VwG.get : ∀ {G G' : List Sl} {i : Nat} {s : Sl}, VwG M G G' → G'[i]? = some s → G[i]? = some s ∨ ∃ d d', s = .dat d' ∧ G[i]? = some (.dat d) ∧ VwD M d d'
  | _, _, i, s, .nil, h => by simp at h
  | _, _, 0, s, .keep _, h => .inl (by simpa using h)
  | _, _, 0, s, .dat w _, h => .inr (by
    simp at h
    exact ⟨_, _, h.symm, rfl, w⟩)
  | _, _, i + 1, s, .keep w, h => by
    have := VwG.get (i := i) (s := s) w (by simpa using h)
    simpa using this
  | _, _, i + 1, s, .dat _ w, h => by
    have := VwG.get (i := i) (s := s) w (by simpa using h)
    simpa using this
theorem VwG.length : ∀ {G G' : List Sl}, VwG M G G' → G.length = G'.length
  | _, _, .nil => rfl
  | _, _, .keep w => by rw [List.length_cons, List.length_cons, VwG.length w]
  | _, _, .dat _ w => by rw [List.length_cons, List.length_cons, VwG.length w]
theorem EnM.view (E : EnM K H0 F0 F M H σ G) (w : VwG M G G') : En K H0 F0 (Cy.seen M F H) H σ G' where
  dat := fun i d h => by
    rcases w.get h with z | ⟨d0, d', z, z2, z3⟩
    · obtain ⟨v, a, b⟩ := E.en.dat i d z
      exact ⟨v, a, b.mono E.st.seen⟩
    · cases z
      obtain ⟨v, a, b⟩ := E.en.dat i d0 z2
      exact ⟨v, a, z3.rp E.st b⟩
  own := fun i u h => by
    rcases w.get h with z | ⟨d0, d', z, _⟩
    · obtain ⟨p, o, a, b, c, d, r⟩ := E.en.own i u z
      exact ⟨p, o, a, by rw [seen_none (E.ow i u p z a)]; exact b, c, d, r.mono E.st.seen⟩
    · cases z
  dis := fun i j li lj p hij h1 h2 h3 => by
    rcases w.get h1 with z | ⟨d0, d', z, _⟩
    · rcases w.get h2 with y | ⟨d0, d', y, _⟩
      · exact E.en.dis i j li lj p hij z y h3
      · cases y
    · cases z
  e0 := E.en.e0
  ef := fun a o q => by
    cases h : M a with
    | none =>
      rw [seen_none h] at q
      exact E.en.ef a o q
    | some n =>
      rw [seen_some h] at q
      exact q
  e1 := E.en.e1.trans E.st.seen
  nf := fun a o q => by
    cases h : M a with
    | none =>
      rw [seen_none h] at q
      exact E.en.nf a o q
    | some n => exact .inr (E.h0 a n h)
  len := by rw [E.en.len, w.length]
/-! nothing of it stands in the store -/
mutual
def flD : D → Bool
  | .non => true
  | .bl _ => true
  | .int _ => true
  | .str _ => true
  | .ptr _ => true
  | .tup xs => flA xs
  | _ => false
def flA : List D → Bool
  | [] => true
  | x :: xs => flD x && flA xs
end
mutual
theorem Rp.off (hT : ∀ a xs, F a = some (.tup xs) → M a = none) : ∀ {v : V} {d : D}, Rp K F v d → flD d = true → Rp K (unseen M F) v d
  | _, _, .non, _ => .non
  | _, _, .bl b, _ => .bl b
  | _, _, .int i, _ => .int i
  | _, _, .str x, _ => .str x
  | _, _, .ptr a, _ => .ptr a
  | _, .tup ds, .tup h r, q => .tup (by
      rw [unseen_none (hT _ _ h)]
      exact h) (RpA.off hT r (by unfold flD at q; exact q))
  | _, .lst _, .lst _ _, q => by unfold flD at q; cases q
  | _, .dic _, .dic _ _ _, q => by unfold flD at q; cases q
  | _, .obj _ _, .obj _ _ _, q => by unfold flD at q; cases q
  | _, .exc _, .exc _, q => by unfold flD at q; cases q
  | _, .scr _, .scr _, q => by unfold flD at q; cases q
theorem RpA.off (hT : ∀ a xs, F a = some (.tup xs) → M a = none) : ∀ {vs : List V} {ds : List D}, RpA K F vs ds → flA ds = true → RpA K (unseen M F) vs ds
  | _, _, .nil, _ => .nil
  | _, d :: ds, .cons r t, q => by
    unfold flA at q
    rw [Bool.and_eq_true] at q
    exact .cons (Rp.off hT r q.1) (RpA.off hT t q.2)
end
/-- back from a view -/
theorem EnM.back {F2 H2 : Hp} (E : EnM K H0 F0 F M H σ G) (E2 : En K H0 F0 F2 H2 σ G') (f2 : Ex (Cy.seen M F H) F2) (g2 : Ex H H2) (n2 : Nw (Cy.seen M F H) F2 H) : EnM K H0 F0 (unseen M F2) M H2 σ G ∧ Ex F (unseen M F2) ∧ Nw F (unseen M F2) H ∧ ∀ a xs, F2 a = some (.tup xs) → M a = none := by
  have k1 : Ex F (unseen M F2) := fun a o q => by
    cases h : M a with
    | none =>
      rw [unseen_none h]
      exact f2 a o (by rw [seen_none h]; exact q)
    | some n =>
      rw [(E.st a n h).1] at q
      cases q
  have k2 : Nw F (unseen M F2) H := fun a o q => by
    cases h : M a with
    | none =>
      rw [unseen_none h] at q
      rcases n2 a o q with z | z
      · rw [seen_none h] at z
        exact .inl z
      · exact .inr z
    | some n =>
      rw [unseen_some h] at q
      cases q
  have k3 : Ex (unseen M F2) H2 := fun a o q => by
    cases h : M a with
    | none =>
      rw [unseen_none h] at q
      exact E2.ef a o q
    | some n =>
      rw [unseen_some h] at q
      cases q
  refine ⟨E.grow k1 g2 k3 k2, k1, k2, fun a xs q => ?_⟩
  cases h : M a with
  | none => rfl
  | some n =>
    obtain ⟨_, o, h2, h3⟩ := E.st a n h
    have h4 := E2.ef a _ q
    rw [g2 _ _ h2] at h4
    cases h4
    exact absurd h3 fun z => z.noTup
end
end Cy

set_option Elab.async false
set_option linter.all false
set_option maxRecDepth 100000
set_option maxHeartbeats 2000000
namespace Cy
open PySem PySem.Spec PyProof.Rows L2 Evl
/-! expressions that look at the store -/
structure EvR (K : PySem.W.Frag) (te : TE) (M : Sto) (G : List Sl) (d : D) : Prop where
  run : ∀ {H0 F0 F H : Hp} {σ : L2.St}, EnM K H0 F0 F M H σ G → ∀ Q : VK, (∀ v F' H', EnM K H0 F0 F' M H' σ G → Ex F F' → Rp K F' v d → Q v H') → te σ H Q
structure TtR (K : PySem.W.Frag) (tt : TT) (M : Sto) (G : List Sl) (b : Bool) : Prop where
  run : ∀ {H0 F0 F H : Hp} {σ : L2.St}, EnM K H0 F0 F M H σ G → ∀ Q : Bool → Hp → Prop, (∀ F' H', EnM K H0 F0 F' M H' σ G → Ex F F' → Q b H') → tt σ H Q
structure EvSR (K : PySem.W.Frag) (ta : TA) (M : Sto) (G : List Sl) (ds : List D) : Prop where
  run : ∀ {H0 F0 F H : Hp} {σ : L2.St}, EnM K H0 F0 F M H σ G → ∀ Q : List V → Hp → Prop, (∀ vs F' H', EnM K H0 F0 F' M H' σ G → Ex F F' → RpA K F' vs ds → Q vs H') → ta σ H Q
/-- a new list, of things that stand beside the store -/
structure EvOR (K : PySem.W.Frag) (te : TE) (M : Sto) (G : List Sl) (l : List D) : Prop where
  run : ∀ {H0 F0 F H : Hp} {σ : L2.St}, EnM K H0 F0 F M H σ G → ∀ Q : VK, (∀ p xs F' H', EnM K H0 F0 F' M H' σ G → Ex F F' → Ex H H' → Nw F F' H → H p = none → F' p = none → H' p = some (.lst xs) → RpA K F' xs l → Q (.ref p) H') → te σ H Q
section
variable {K : PySem.W.Frag} {M M1 M2 : Sto} {G G' G1 : List Sl} {te tb to tx : TE} {ta : TA} {t u : TT} {d a b : D} {ds l : List D} {X : XK}
theorem r_pure (h : EvD K te G d) : EvR K te M G d := ⟨fun {H0 F0 F H σ} E Q q => h E.en Q fun v F1 H1 E1 f1 g1 n1 r1 => q v F1 H1 (E.withG E1 f1 g1 n1) f1 r1⟩
theorem r_view (w : VwG M G G') (h : EvD K te G' d) (hd : flD d = true) : EvR K te M G d := ⟨fun {H0 F0 F H σ} E Q q => h (E.view w) Q fun v F1 H1 E1 f1 g1 n1 r1 => by
  obtain ⟨B, b1, b2, b3⟩ := E.back E1 f1 g1 n1
  exact q v _ H1 B b1 (Rp.off b3 r1 hd)⟩
theorem t_pure {x : Bool} (h : EvTt K t G x) : TtR K t M G x := ⟨fun {H0 F0 F H σ} E Q q => h E.en Q fun F1 H1 E1 f1 g1 n1 => q F1 H1 (E.withG E1 f1 g1 n1) f1⟩
theorem t_view {x : Bool} (w : VwG M G G') (h : EvTt K t G' x) : TtR K t M G x := ⟨fun {H0 F0 F H σ} E Q q => h (E.view w) Q fun F1 H1 E1 f1 g1 n1 => by
  obtain ⟨B, b1, b2, b3⟩ := E.back E1 f1 g1 n1
  exact q _ H1 B b1⟩
theorem o_pure (h : EvO K te G l) : EvOR K te M G l := ⟨fun {H0 F0 F H σ} E Q q => h E.en Q fun p xs F1 H1 E1 f1 g1 n1 hp hf h1 r1 => q p xs F1 H1 (E.withG E1 f1 g1 n1) f1 g1 n1 hp hf h1 r1⟩
theorem o_view (w : VwG M G G') (h : EvO K te G' l) (hd : flA l = true) : EvOR K te M G l := ⟨fun {H0 F0 F H σ} E Q q => h (E.view w) Q fun p xs F1 H1 E1 f1 g1 n1 hp hf h1 r1 => by
  obtain ⟨B, b1, b2, b3⟩ := E.back E1 f1 g1 n1
  exact q p xs _ H1 B b1 g1 b2 hp (by rw [unseen_none (E.free hp)]; exact hf) h1 (RpA.off b3 r1 hd)⟩
theorem r_shareO (h : EvOR K te M G l) : EvR K te M G (.lst l) := ⟨fun {H0 F0 F H σ} E Q q => h.run E Q fun p xs F1 H1 E1 f1 g1 n1 hp hf h1 r1 => by
  have ef : Ex F1 (upd F1 p (.lst xs)) := Ex.new hf
  have e3 : Ex (upd F1 p (.lst xs)) H1 := fun z o y => by
    by_cases hz : z = p
    · subst hz
      rw [upd_same] at y
      cases y
      exact h1
    · rw [upd_ne hz] at y
      exact E1.en.ef z o y
  have nw : Nw F (upd F1 p (.lst xs)) H := fun z o y => by
    by_cases hz : z = p
    · subst hz
      exact .inr hp
    · rw [upd_ne hz] at y
      exact n1 z o y
  exact q _ _ H1 (E.grow (f1.trans ef) g1 e3 nw) (f1.trans ef) (.lst upd_same (r1.mono ef))⟩
theorem r_is (h : EvR K te M G a) (e : a = b) : EvR K te M G b := e ▸ h
theorem tr_is {x y : Bool} (h : TtR K t M G x) (e : x = y) : TtR K t M G y := e ▸ h
theorem sr_nil : EvSR K tNil M G [] := ⟨fun {H0 F0 F H σ} E Q q => q [] F H E (Ex.refl F) .nil⟩
theorem sr_cons {tr : TA} (h : EvR K te M G a) (hr : EvSR K tr M G ds) : EvSR K (tCons te tr) M G (a :: ds) := ⟨fun {H0 F0 F H σ} E Q q =>
  h.run E _ fun v F1 H1 E1 f1 r1 => hr.run E1 _ fun vs F2 H2 E2 f2 r2 => q (v :: vs) F2 H2 E2 (f1.trans f2) (.cons (r1.mono f2) r2)⟩
theorem s_pure {ta : TA} (h : EvS K ta G ds) : EvSR K ta M G ds := ⟨fun {H0 F0 F H σ} E Q q => h E.en Q fun vs F1 H1 E1 f1 g1 n1 r1 => q vs F1 H1 (E.withG E1 f1 g1 n1) f1 r1⟩
theorem r_op {r : R2} {c : D} (h1 : EvR K te M G a) (h2 : EvR K tb M G b) (h3 : Op2 K r a b c) : EvR K (tOp r te tb) M G c := ⟨fun {H0 F0 F H σ} E Q q =>
  h1.run E _ fun v F1 H1 E1 f1 r1 => h2.run E1 _ fun w F2 H2 E2 f2 r2 => h3.run E2.en.ef (r1.mono f2) r2 Q fun z F3 H3 f3 e3 g3 n3 r3 =>
    q z F3 H3 (E2.grow f3 g3 e3 n3) ((f1.trans f2).trans f3) r3⟩
theorem r_cb {r : List V → Hp → VK → Prop} {ta : TA} {c : D} (h : EvSR K ta M G ds) (hr : OpN K r ds c) : EvR K (tCB r ta) M G c := ⟨fun {H0 F0 F H σ} E Q q =>
  h.run E _ fun vs F1 H1 E1 f1 r1 => hr.run E1.en.ef r1 Q fun z F3 H3 f3 e3 g3 n3 r3 => q z F3 H3 (E1.grow f3 g3 e3 n3) (f1.trans f3) r3⟩
theorem r_tup {ta : TA} (h : EvSR K ta M G ds) (hl : ds.length ≤ 100000) : EvR K (tTup ta) M G (.tup ds) := ⟨fun {H0 F0 F H σ} E Q q =>
  h.run E _ fun vs F1 H1 E1 f1 r1 => by
    refine ⟨sz_of (by rw [r1.length]; exact hl), fun p hp => ?_⟩
    have ef : Ex F1 (upd F1 p (.tup vs)) := Ex.new (ex_none E1.en.ef hp)
    exact q _ _ _ (E1.grow ef (Ex.new hp) (ex_upd_both E1.en.ef) (nw_upd hp (Nw.refl F1 H1))) (f1.trans ef) (.tup upd_same (r1.mono ef))⟩
theorem or_lst {ta : TA} (h : EvS K ta G ds) (hl : ds.length ≤ 100000) : EvOR K (tLst ta) M G ds := o_pure (o_lst h hl)
theorem tr_test {x : Bool} (h : EvR K te M G (.bl x)) : TtR K (tTest te) M G x := ⟨fun {H0 F0 F H σ} E Q q => h.run E _ fun v F1 H1 E1 f1 r1 => by
  cases r1
  exact ⟨x, rfl, q F1 H1 E1 f1⟩⟩
theorem tr_B {x : Bool} (h : EvR K te M G (.bl x)) : TtR K (tB te) M G x := ⟨fun {H0 F0 F H σ} E Q q => h.run E _ fun v F1 H1 E1 f1 r1 => by
  cases r1
  exact ⟨x, rfl, q F1 H1 E1 f1⟩⟩
theorem tr_not {x : Bool} (h1 : TtR K t M G x) : TtR K (tNot t) M G (!x) := ⟨fun {H0 F0 F H σ} E Q q => h1.run E _ fun F1 H1 E1 f1 => q F1 H1 E1 f1⟩
theorem tr_and {x y : Bool} (h1 : TtR K t M G x) (h2 : x = true → TtR K u M G y) : TtR K (tAnd t u) M G (x && y) := ⟨fun {H0 F0 F H σ} E Q q => h1.run E _ fun F1 H1 E1 f1 => by
  cases x with
  | true => exact (h2 rfl).run E1 _ fun F2 H2 E2 f2 => q F2 H2 E2 (f1.trans f2)
  | false => exact q F1 H1 E1 f1⟩
theorem tr_or {x y : Bool} (h1 : TtR K t M G x) (h2 : x = false → TtR K u M G y) : TtR K (tOr t u) M G (x || y) := ⟨fun {H0 F0 F H σ} E Q q => h1.run E _ fun F1 H1 E1 f1 => by
  cases x with
  | true => exact q F1 H1 E1 f1
  | false => exact (h2 rfl).run E1 _ fun F2 H2 E2 f2 => q F2 H2 E2 (f1.trans f2)⟩
theorem r_andV {x y : Bool} (h1 : EvR K te M G (.bl x)) (h2 : x = true → EvR K tb M G (.bl y)) : EvR K (tAndV te tb) M G (.bl (x && y)) := ⟨fun {H0 F0 F H σ} E Q q => h1.run E _ fun v F1 H1 E1 f1 r1 => by
  cases r1
  cases x with
  | true => exact ⟨true, rfl, (h2 rfl).run E1 _ fun w F2 H2 E2 f2 r2 => q w F2 H2 E2 (f1.trans f2) r2⟩
  | false => exact ⟨false, rfl, q _ F1 H1 E1 f1 (.bl _)⟩⟩
/-- a field of a thing in the store -/
theorem get_rp {F : Hp} {f : Str} : ∀ {gs : List (Str × V)} {fs : List (Str × D)} {d : D}, gs.map (fun p => p.1) = fs.map (fun p => p.1) → RpA K F (gs.map fun p => p.2) (fs.map fun p => p.2) → fs.lookup f = some d → ∃ v, gs.lookup f = some v ∧ Rp K F v d
  | [], [], _, _, _, h => by cases h
  | [], _ :: _, _, h, _, _ => by cases h
  | _ :: _, [], _, h, _, _ => by cases h
  | (x, v) :: gs, (y, e) :: fs, d, hn, hr, h => by
    have hab : x = y := by
      have := congrArg List.head? hn
      simpa using this
    have hn' : gs.map (fun p => p.1) = fs.map (fun p => p.1) := by
      have := congrArg List.tail hn
      simpa using this
    subst hab
    cases hr with
    | cons r1 r2 =>
      by_cases z : f == x
      · rw [List.lookup_cons, z] at h
        rw [List.lookup_cons, z]
        cases h
        exact ⟨v, rfl, r1⟩
      · have z' : (f == x) = false := by simpa using z
        rw [List.lookup_cons, z'] at h ⊢
        exact get_rp hn' r2 h
theorem r_fld {p C : Addr} {fs : List (Str × D)} {f : Str} (h : EvR K te M G (.ptr p)) (hm : M p = some (.ins C fs)) (hc : Cls K C) (hn : NoAttr K C f) (hf : fs.lookup f = some d) : EvR K (tFld K te f) M G d := ⟨fun {H0 F0 F H σ} E Q q =>
  h.run E _ fun v F1 H1 E1 f1 r1 => by
    cases r1
    obtain ⟨_, o, h2, h3⟩ := E1.st p _ hm
    cases h3 with
    | ins h4 h5 =>
      obtain ⟨w, k1, k2⟩ := get_rp h4 h5 hf
      exact ⟨p, C, _, _, w, rfl, h2, hc, hn, k1, q w F1 H1 E1 f1 k2⟩⟩
end

/-! expressions that change the store, or raise -/
structure EvM (K : PySem.W.Frag) (te : TE) (X : XK) (M : Sto) (G : List Sl) (P : Res → Sto → Prop) : Prop where
  run : ∀ {H0 F0 F H : Hp} {σ : L2.St}, EnM K H0 F0 F M H σ G → ∀ Q : VK, (∀ d M', P (.ok d) M' → ∀ v F' H', EnM K H0 F0 F' M' H' σ G → Ex F F' → Rp K F' v d → Q v H') →
    (∀ C M', P (.exc C) M' → ∀ F' H', EnM K H0 F0 F' M' H' σ G → Ex F F' → X (.ref C) none H') → te σ H Q
/-- what a def leaves of the store -/
structure RoM (K : PySem.W.Frag) (H0 F0 F' : Hp) (M' : Sto) (H' : Hp) : Prop where
  ro : Ro H0 F0 F' H'
  st : Cells K F' M' H'
  h0 : ∀ a n, M' a = some n → H0 a = none
theorem EnM.rom {K : PySem.W.Frag} {H0 F0 F H : Hp} {M : Sto} {σ : L2.St} {G : List Sl} (E : EnM K H0 F0 F M H σ G) : RoM K H0 F0 F M H := ⟨E.en.ro, E.st, E.h0⟩
def PostM (K : PySem.W.Frag) (H0 F0 F : Hp) (o : Out) (M : Sto) (E : Ends) : Prop := match o with
  | .nx G => ∀ σ F' H', EnM K H0 F0 F' M H' σ G → Ex F F' → E.nx σ H'
  | .bk G => ∀ σ F' H', EnM K H0 F0 F' M H' σ G → Ex F F' → E.bk σ H'
  | .ct G => ∀ σ F' H', EnM K H0 F0 F' M H' σ G → Ex F F' → E.ct σ H'
  | .rt d => ∀ v F' H', RoM K H0 F0 F' M H' → Rp K F' v d → E.rt v H'
  | .ro l => ∀ p xs F' H', RoM K H0 F0 F' M H' → H0 p = none → F' p = none → M p = none → H' p = some (.lst xs) → RpA K F' xs l → E.rt (.ref p) H'
  | .ro2 _ _ => False
  | .ex C X => ∀ F' H', RoM K H0 F0 F' M H' → X (.ref C) none H'
structure StM (K : PySem.W.Frag) (t : TS) (M : Sto) (G : List Sl) (P : Out → Sto → Prop) : Prop where
  run : ∀ {H0 F0 F H : Hp} {σ : L2.St} {E : Ends}, EnM K H0 F0 F M H σ G → (∀ o M', P o M' → PostM K H0 F0 F o M' E) → t E σ H
section
variable {K : PySem.W.Frag} {M M1 M2 : Sto} {G G' G1 : List Sl} {te tb to tx : TE} {ta : TA} {t u : TT} {tu tw tz : TS} {d a b : D} {ds l : List D} {X : XK} {P P1 : Out → Sto → Prop} {R : Res → Sto → Prop} {o : Out} {g : TG}
theorem PostM.weak {H0 F0 F F1 : Hp} {E : Ends} (h : PostM K H0 F0 F o M E) (f : Ex F F1) : PostM K H0 F0 F1 o M E := by
  cases o with
  | nx G => exact fun σ F' H' e x => h σ F' H' e (f.trans x)
  | bk G => exact fun σ F' H' e x => h σ F' H' e (f.trans x)
  | ct G => exact fun σ F' H' e x => h σ F' H' e (f.trans x)
  | rt d => exact h
  | ro l => exact h
  | ro2 l m => exact h
  | ex C X => exact h
theorem m_of (h : StM K tu M G P1) (hp : ∀ o M', P1 o M' → P o M') : StM K tu M G P := ⟨fun {H0 F0 F H σ E} En p => h.run En fun o M' q => p o M' (hp o M' q)⟩
theorem m_seq (h1 : StM K tu M G P1) (h2 : ∀ G1 M1, P1 (.nx G1) M1 → StM K tw M1 G1 P) (h3 : ∀ o M1, P1 o M1 → (∀ G, o ≠ .nx G) → P o M1) : StM K (tSeq tu tw) M G P := ⟨fun {H0 F0 F H σ E} En p => h1.run (E := { E with nx := tw E }) En fun o M' q => by
  cases o with
  | nx G => exact fun σ1 F1 H1 E1 f1 => (h2 G M' q).run E1 fun o M2 q2 => (p o M2 q2).weak f1
  | bk G => exact p _ _ (h3 _ M' q fun _ z => nomatch z)
  | ct G => exact p _ _ (h3 _ M' q fun _ z => nomatch z)
  | rt d => exact p _ _ (h3 _ M' q fun _ z => nomatch z)
  | ro l => exact p _ _ (h3 _ M' q fun _ z => nomatch z)
  | ro2 l m => exact p _ _ (h3 _ M' q fun _ z => nomatch z)
  | ex C X => exact p _ _ (h3 _ M' q fun _ z => nomatch z)⟩
/-- exactly so -/
def Only (o : Out) (M : Sto) : Out → Sto → Prop := fun o' M' => o' = o ∧ M' = M
theorem m_seq1 (h1 : StM K tu M G (Only (.nx G1) M1)) (h2 : StM K tw M1 G1 P) : StM K (tSeq tu tw) M G P := m_seq h1 (fun G2 M2 q => by
  obtain ⟨q1, rfl⟩ := q
  cases q1
  exact h2) fun o M2 q hn => absurd q.1 (hn _)
theorem m_stop (h1 : StM K tu M G P1) (hn : ∀ G M', ¬ P1 (.nx G) M') (hp : ∀ o M', P1 o M' → P o M') : StM K (tSeq tu tw) M G P := m_seq h1 (fun G M' q => absurd q (hn G M')) fun o M' q _ => hp o M' q
theorem m_next (h : P (.nx G) M) : StM K tNext M G P := ⟨fun {H0 F0 F H σ E} En p => p _ _ h σ F H En (Ex.refl F)⟩
theorem m_if {x : Bool} (h : TtR K t M G x) (h1 : x = true → StM K tu M G P) (h2 : x = false → StM K tw M G P) : StM K (tIfS t tu tw) M G P := ⟨fun {H0 F0 F H σ E} En p => h.run En _ fun F1 H1 E1 f1 => by
  cases x with
  | true =>
    show tu E σ H1
    exact (h1 rfl).run E1 fun o M' q => (p o M' q).weak f1
  | false =>
    show tw E σ H1
    exact (h2 rfl).run E1 fun o M' q => (p o M' q).weak f1⟩
theorem m_pass (h : TtR K t M G false) (h2 : StM K tw M G P) : StM K (tSeq (tIfS t tu tNext) tw) M G P := m_seq1 (m_if h (fun q => nomatch q) (fun _ => m_next ⟨rfl, rfl⟩)) h2
theorem m_fire (h : TtR K t M G true) (h2 : StM K tu M G P) (hn : ∀ G M', ¬ P (.nx G) M') : StM K (tSeq (tIfS t tu tNext) tw) M G P := m_stop (m_if h (fun _ => h2) (fun q => nomatch q)) hn fun _ _ q => q
theorem m_ret (h : EvR K te M G d) (hp : P (.rt d) M) : StM K (tRet te) M G P := ⟨fun {H0 F0 F H σ E} En p => h.run En _ fun v F1 H1 E1 f1 r1 => p _ _ hp v F1 H1 E1.rom r1⟩
theorem m_retO (h : EvOR K te M G l) (hp : P (.ro l) M) : StM K (tRet te) M G P := ⟨fun {H0 F0 F H σ E} En p => h.run En _ fun q xs F1 H1 E1 f1 g1 n1 hq hf h1 r1 => p _ _ hp q xs F1 H1 E1.rom (ex_none En.en.e0 hq) hf (En.free hq) h1 r1⟩
theorem m_retM (h : EvM K te X M G R) (hp : ∀ d M', R (.ok d) M' → P (.rt d) M') (hx : ∀ C M', R (.exc C) M' → P (.ex C X) M') : StM K (tRet te) M G P := ⟨fun {H0 F0 F H σ E} En p => h.run En _ (fun d M' q v F1 H1 E1 f1 r1 => p _ _ (hp d M' q) v F1 H1 E1.rom r1) fun C M' q F1 H1 E1 f1 => p _ _ (hx C M' q) F1 H1 E1.rom⟩
theorem m_asg {i : Nat} (h : EvR K te M G d) (hp : P (.nx (G.set i (.dat d))) M) : StM K (tAsg te (gName i)) M G P := ⟨fun {H0 F0 F H σ E} En p => h.run En _ fun v F1 H1 E1 f1 r1 => p _ _ hp _ F1 H1 (E1.setD r1 i) f1⟩
/-- targets that are names alone -/
structure TgM (K : PySem.W.Frag) (g : TG) (G : List Sl) (d : D) (G' : List Sl) : Prop where
  run : ∀ {H0 F0 F H : Hp} {M : Sto} {σ : L2.St} {v : V}, EnM K H0 F0 F M H σ G → Rp K F v d → ∀ Q : L2.St → Hp → Prop, (∀ σ', EnM K H0 F0 F M H σ' G' → Q σ' H) → g v σ H Q
structure TgsM (K : PySem.W.Frag) (g : TGs) (G : List Sl) (ds : List D) (G' : List Sl) : Prop where
  run : ∀ {H0 F0 F H : Hp} {M : Sto} {σ : L2.St} {vs : List V}, EnM K H0 F0 F M H σ G → RpA K F vs ds → ∀ Q : L2.St → Hp → Prop, (∀ σ', EnM K H0 F0 F M H σ' G' → Q σ' H) → g vs σ H Q
theorem gm_name {i : Nat} : TgM K (gName i) G d (G.set i (.dat d)) := ⟨fun {H0 F0 F H M σ v} E r Q q => q _ (E.setD r i)⟩
theorem gms_nil : TgsM K gNil G [] G := ⟨fun {H0 F0 F H M σ vs} E r Q q => by
  cases r
  exact ⟨rfl, q σ E⟩⟩
theorem gms_cons {g : TG} {gs : TGs} {G2 : List Sl} (h1 : TgM K g G d G1) (h2 : TgsM K gs G1 ds G2) : TgsM K (gCons g gs) G (d :: ds) G2 := ⟨fun {H0 F0 F H M σ vs} E r Q q => by
  cases r with
  | cons r1 r2 => exact ⟨_, _, rfl, h1.run E r1 _ fun σ1 E1 => h2.run E1 r2 Q q⟩⟩
theorem gm_tup {gs : TGs} {n : Nat} (h : TgsM K gs G ds G1) (hn : ds.length = n) : TgM K (gTup K n gs) G (.tup ds) G1 := ⟨fun {H0 F0 F H M σ v} E r Q q => by
  cases r with
  | tup ha rs => exact ⟨_, _, rfl, Or.inl (Or.inl (E.en.ef _ _ ha)), by rw [rs.length]; exact hn, h.run E rs Q q⟩⟩
theorem m_asgG (h : EvR K te M G d) (hg : TgM K g G d G1) (hp : P (.nx G1) M) : StM K (tAsg te g) M G P := ⟨fun {H0 F0 F H σ E} En p => h.run En _ fun v F1 H1 E1 f1 r1 => hg.run E1 r1 _ fun σ2 E2 => p _ _ hp σ2 F1 H1 E2 f1⟩
theorem m_asgM (h : EvM K te X M G R) (G2 : D → List Sl) (hg : ∀ d M', R (.ok d) M' → TgM K g G d (G2 d)) (hp : ∀ d M', R (.ok d) M' → P (.nx (G2 d)) M') (hx : ∀ C M', R (.exc C) M' → P (.ex C X) M') : StM K (tAsg te g) M G P := ⟨fun {H0 F0 F H σ E} En p => h.run En _ (fun d M' q v F1 H1 E1 f1 r1 => (hg d M' q).run E1 r1 _ fun σ2 E2 => p _ _ (hp d M' q) σ2 F1 H1 E2 f1) fun C M' q F1 H1 E1 f1 => p _ _ (hx C M' q) F1 H1 E1.rom⟩
theorem m_asgO {i : Nat} (h : EvOR K te M G l) (hp : P (.nx (G.set i (.own (.lst l)))) M) : StM K (tAsg te (gName i)) M G P := ⟨fun {H0 F0 F H σ E} En p => h.run En _ fun q xs F1 H1 E1 f1 g1 n1 hq hf h1 r1 => by
  have e2 := E1.en.setO hf (ex_none En.en.e0 hq) h1 (.lst r1) i fun j lj hj _ hs => En.freeO hq j lj hj hs
  refine p _ _ hp _ F1 H1 ⟨e2, E1.st, E1.h0, fun j w p2 k1 k2 => ?_⟩ f1
  by_cases hij : i = j
  · subst hij
    have hl : i < σ.length := by
      have := (List.getElem?_eq_some_iff.mp k2).1
      rw [List.length_set] at this
      exact this
    rw [List.getElem?_set_self hl] at k2
    cases k2
    exact En.free hq
  · rw [List.getElem?_set_ne hij] at k1 k2
    exact E1.ow j w p2 k1 k2⟩
theorem m_drop (h : EvR K te M G d) (hp : P (.nx G) M) : StM K (tDrop te) M G P := ⟨fun {H0 F0 F H σ E} En p => h.run En _ fun v F1 H1 E1 f1 r1 => p _ _ hp σ F1 H1 E1 f1⟩
theorem m_dropM (h : EvM K te X M G R) (hp : ∀ d M', R (.ok d) M' → P (.nx G) M') (hx : ∀ C M', R (.exc C) M' → P (.ex C X) M') : StM K (tDrop te) M G P := ⟨fun {H0 F0 F H σ E} En p => h.run En _ (fun d M' q v F1 H1 E1 f1 r1 => p _ _ (hp d M' q) σ F1 H1 E1 f1) fun C M' q F1 H1 E1 f1 => p _ _ (hx C M' q) F1 H1 E1.rom⟩
theorem m_raise0 {C : Addr} (hp : P (.ex C X) M) : StM K (tRaise0 C X) M G P := ⟨fun {H0 F0 F H σ E} En p => p _ _ hp F H En.rom⟩
theorem m_weak (h : StM K tu M G P1) (hp : ∀ o M', P1 o M' → (∃ G1 G2, o = .nx G1 ∧ Wk G1 G2 ∧ P (.nx G2) M') ∨ P o M') : StM K tu M G P := ⟨fun {H0 F0 F H σ E} En p => h.run En fun o M' q => by
  rcases hp o M' q with ⟨G1, G2, rfl, w, k⟩ | k
  · exact fun σ F' H' E' f => p _ _ k σ F' H' (E'.weak w) f
  · exact p _ _ k⟩
theorem m_from (h : StM K tu M G1 P) (w : Wk G G1) : StM K tu M G P := ⟨fun {H0 F0 F H σ E} En p => h.run (En.weak w) p⟩
/-- a read only expression -/
theorem e_mr (h : EvR K te M G d) (hp : R (.ok d) M) : EvM K te X M G R := ⟨fun {H0 F0 F H σ} E Q q qx => h.run E Q fun v F1 H1 E1 f1 r1 => q _ _ hp v F1 H1 E1 f1 r1⟩
theorem e_mO (h : EvOR K te M G l) (hp : ∀ p, M p = none → R (.ok (.ptr p)) (updM M p (.lst l))) : EvM K te X M G R := ⟨fun {H0 F0 F H σ} E Q q qx => h.run E Q fun p xs F1 H1 E1 f1 g1 n1 hq hf h1 r1 =>
  q _ _ (hp p (E.free hq)) (.ref p) F1 H1 (E1.new h1 hf (ex_none E.en.e0 hq) (fun i w hi hs => E.freeO hq i w hi hs) (.lst r1)) f1 (.ptr p)⟩
theorem e_mdnew (hp : ∀ p, M p = none → R (.ok (.ptr p)) (updM M p (.dic []))) : EvM K tDNewK X M G R := ⟨fun {H0 F0 F H σ} E Q q qx p hq => by
  have hF : F p = none := ex_none E.en.ef hq
  have E1 := E.grow (Ex.refl F) (Ex.new (o := .dK []) hq) (E.en.ef.trans (Ex.new hq)) (Nw.refl F H)
  exact q _ _ (hp p (E.free hq)) (.ref p) F _ (E1.new upd_same hF (ex_none E.en.e0 hq) (fun i w hi hs => E.freeO hq i w hi hs) (.dic rfl .nil)) (Ex.refl F) (.ptr p)⟩
/-! statements that know nothing of the store -/
/-- H0 with the cells of the store -/
def held (M : Sto) (H0 H : Hp) : Hp := fun a => match M a with
  | some _ => H a
  | none => H0 a
theorem held_some {H0 H : Hp} {a : Addr} {n : Nd} (h : M a = some n) : held M H0 H a = H a := by
  unfold held
  rw [h]
theorem held_none {H0 H : Hp} {a : Addr} (h : M a = none) : held M H0 H a = H0 a := by
  unfold held
  rw [h]
section
variable {H0 F0 F F' H H' : Hp} {σ σ' : L2.St}
theorem EnM.h0le (E : EnM K H0 F0 F M H σ G) : Ex H0 (held M H0 H) := fun a x q => by
  cases hm : M a with
  | none => rw [held_none hm]; exact q
  | some n =>
    rw [E.h0 a n hm] at q
    cases q
theorem EnM.off (E : EnM K H0 F0 F M H σ G) {a : Addr} (h : held M H0 H a = none) : M a = none := by
  cases hm : M a with
  | none => rfl
  | some n =>
    obtain ⟨_, x, h4, _⟩ := E.st a n hm
    rw [held_some hm, h4] at h
    cases h
theorem EnM.start (E : EnM K H0 F0 F M H σ G) : Cy.En K (held M H0 H) F F H σ G where
  dat := E.en.dat
  own := fun i w q => by
    obtain ⟨p, x, a, b, c, d, r⟩ := E.en.own i w q
    exact ⟨p, x, a, b, by rw [held_none (E.ow i w p q a)]; exact c, d, r⟩
  dis := E.en.dis
  e0 := fun a x q => by
    cases hm : M a with
    | none =>
      rw [held_none hm] at q
      exact E.en.e0 a x q
    | some n =>
      rw [held_some hm] at q
      exact q
  ef := E.en.ef
  e1 := Ex.refl F
  nf := fun a x q => .inl q
  len := E.en.len
theorem EnM.ended (E : EnM K H0 F0 F M H σ G) (ro : Ro (held M H0 H) F F' H') : RoM K H0 F0 F' M H' where
  ro := ⟨E.h0le.trans ro.e0, ro.ef, E.en.e1.trans ro.e1, fun a y q => by
    rcases ro.nf a y q with z | z
    · exact E.en.nf a y z
    · exact .inr (ex_none E.h0le z)⟩
  st := fun a n hm => by
    obtain ⟨h3, x, h4, h5⟩ := E.st a n hm
    refine ⟨?_, x, ro.e0 a x (by rw [held_some hm]; exact h4), h5.mono ro.e1⟩
    cases q : F' a with
    | none => rfl
    | some y =>
      rcases ro.nf a y q with z | z
      · rw [h3] at z
        cases z
      · rw [held_some hm, h4] at z
        cases z
  h0 := E.h0
theorem EnM.went (E : EnM K H0 F0 F M H σ G) (E1 : Cy.En K (held M H0 H) F F' H' σ' G1) : EnM K H0 F0 F' M H' σ' G1 where
  en := ⟨E1.dat, fun i w q => by
      obtain ⟨p, x, a, b, c, d, r⟩ := E1.own i w q
      exact ⟨p, x, a, b, ex_none E.h0le c, d, r⟩, E1.dis, E.h0le.trans E1.e0, E1.ef, E.en.e1.trans E1.e1, (E.ended E1.ro).ro.nf, E1.len⟩
  st := (E.ended E1.ro).st
  h0 := E.h0
  ow := fun i w p q1 q2 => by
    obtain ⟨p2, x, a, b, c, d, r⟩ := E1.own i w q1
    rw [q2] at a
    cases a
    exact E.off c
end
theorem m_lift (h : StD K tu G o) (h2 : ∀ l m, o ≠ .ro2 l m) (hp : P o M) : StM K tu M G P := ⟨fun {H0 F0 F H σ E} En p => h.run En.start (by
  have q := p _ _ hp
  cases o with
  | nx G => exact fun σ F' H' E' f => q σ F' H' (En.went E') f
  | bk G => exact fun σ F' H' E' f => q σ F' H' (En.went E') f
  | ct G => exact fun σ F' H' E' f => q σ F' H' (En.went E') f
  | rt d => exact fun v F' H' ro r => q v F' H' (En.ended ro) r
  | ro l => exact fun p xs F' H' ro k1 k2 k3 k4 => q p xs F' H' (En.ended ro) (ex_none En.h0le k1) k2 (En.off k1) k3 k4
  | ro2 l m => exact absurd rfl (h2 l m)
  | ex C X => exact fun F' H' ro => q F' H' (En.ended ro))⟩
end
end Cy

set_option Elab.async false
set_option linter.all false
set_option maxRecDepth 100000
set_option maxHeartbeats 2000000
namespace Cy
open PySem PySem.Spec PyProof.Rows L2 Evl
/-! dicts by their keys -/
def valE (es : List (Key × D)) (k : Key) : Option D := (es.find? fun kv => decide (kv.1 = k)).map fun kv => kv.2
def putE (es : List (Key × D)) (k : Key) (d : D) : List (Key × D) := if (es.any fun kv => decide (kv.1 = k)) = true then es.map fun kv => if kv.1 = k then (kv.1, d) else kv else es ++ [(k, d)]
def dropE (es : List (Key × D)) (k : Key) : List (Key × D) := es.filter fun kv => decide (kv.1 ≠ k)
theorem valE_nil {k : Key} : valE [] k = none := rfl
theorem valE_pos {p : Key × D} {r : List (Key × D)} {k : Key} (e : p.1 = k) : valE (p :: r) k = some p.2 := by simp [valE, List.find?_cons, e]
theorem valE_neg {p : Key × D} {r : List (Key × D)} {k : Key} (e : ¬ p.1 = k) : valE (p :: r) k = valE r k := by simp [valE, List.find?_cons, e]
def keyD : Key → D
  | .inl i => .int i
  | .inr x => .str x
section
variable {K : PySem.W.Frag} {F : Hp}
theorem key_rp {k : Key} {v : V} (h : Rp K F v (keyD k)) : v = kV k := by
  cases k with
  | inl i => exact rp_int h
  | inr x => exact rp_str h
theorem rp_key (k : Key) : Rp K F (kV k) (keyD k) := by
  cases k with
  | inl i => exact .int i
  | inr x => exact .str x
theorem valE_rp {k : Key} : ∀ {kvs : List (Key × V)} {es : List (Key × D)}, kvs.map (fun p => p.1) = es.map (fun p => p.1) → RpA K F (kvs.map fun p => p.2) (es.map fun p => p.2) → (∀ d, valE es k = some d → ∃ v, valV kvs k = some v ∧ Rp K F v d) ∧ (valE es k = none → valV kvs k = none)
  | [], [], _, _ => ⟨fun d h => (nomatch h), fun _ => rfl⟩
  | [], _ :: _, h, _ => by cases h
  | _ :: _, [], h, _ => by cases h
  | (a, u) :: kvs, (b, e) :: es, hn, hr => by
    have hab : a = b := by
      have := congrArg List.head? hn
      simpa using this
    have hn' : kvs.map (fun p => p.1) = es.map (fun p => p.1) := by
      have := congrArg List.tail hn
      simpa using this
    subst hab
    have hr' : RpA K F (u :: kvs.map fun p => p.2) (e :: es.map fun p => p.2) := hr
    cases hr' with
    | cons r1 r2 =>
      by_cases z : a = k
      · refine ⟨fun d h => ?_, fun h => ?_⟩
        · rw [valE_pos (p := (a, e)) z] at h
          cases h
          exact ⟨u, valV_pos (p := (a, u)) z, r1⟩
        · rw [valE_pos (p := (a, e)) z] at h
          cases h
      · rw [valE_neg (p := (a, e)) z, valV_neg (p := (a, u)) z]
        exact valE_rp hn' r2
theorem any_keys {k : Key} : ∀ {kvs : List (Key × V)} {es : List (Key × D)}, kvs.map (fun p => p.1) = es.map (fun p => p.1) → (kvs.any fun kv => decide (kv.1 = k)) = es.any fun kv => decide (kv.1 = k)
  | [], [], _ => rfl
  | [], _ :: _, h => by cases h
  | _ :: _, [], h => by cases h
  | (a, u) :: kvs, (b, e) :: es, hn => by
    have hab : a = b := by
      have := congrArg List.head? hn
      simpa using this
    have hn' : kvs.map (fun p => p.1) = es.map (fun p => p.1) := by
      have := congrArg List.tail hn
      simpa using this
    subst hab
    rw [List.any_cons, List.any_cons, any_keys hn']
theorem repl_rp {k : Key} {v : V} {d : D} (r : Rp K F v d) : ∀ {kvs : List (Key × V)} {es : List (Key × D)}, kvs.map (fun p => p.1) = es.map (fun p => p.1) → RpA K F (kvs.map fun p => p.2) (es.map fun p => p.2) →
    (kvs.map fun kv => if kv.1 = k then (kv.1, v) else kv).map (fun p => p.1) = (es.map fun kv => if kv.1 = k then (kv.1, d) else kv).map (fun p => p.1) ∧ RpA K F ((kvs.map fun kv => if kv.1 = k then (kv.1, v) else kv).map fun p => p.2) ((es.map fun kv => if kv.1 = k then (kv.1, d) else kv).map fun p => p.2)
  | [], [], _, _ => ⟨rfl, .nil⟩
  | [], _ :: _, h, _ => by cases h
  | _ :: _, [], h, _ => by cases h
  | (a, u) :: kvs, (b, e) :: es, hn, hr => by
    have hab : a = b := by
      have := congrArg List.head? hn
      simpa using this
    have hn' : kvs.map (fun p => p.1) = es.map (fun p => p.1) := by
      have := congrArg List.tail hn
      simpa using this
    subst hab
    have hr' : RpA K F (u :: kvs.map fun p => p.2) (e :: es.map fun p => p.2) := hr
    cases hr' with
    | cons r1 r2 =>
      obtain ⟨i1, i2⟩ := repl_rp r hn' r2
      by_cases z : a = k
      · refine ⟨?_, ?_⟩
        · rw [List.map_cons, List.map_cons, List.map_cons, List.map_cons, i1, if_pos z, if_pos z]
        · rw [List.map_cons, List.map_cons, List.map_cons, List.map_cons, if_pos z, if_pos z]
          exact .cons r i2
      · refine ⟨?_, ?_⟩
        · rw [List.map_cons, List.map_cons, List.map_cons, List.map_cons, i1, if_neg z, if_neg z]
        · rw [List.map_cons, List.map_cons, List.map_cons, List.map_cons, if_neg z, if_neg z]
          exact .cons r1 i2
theorem putE_rp {k : Key} {v : V} {d : D} (r : Rp K F v d) {kvs : List (Key × V)} {es : List (Key × D)} (hn : kvs.map (fun p => p.1) = es.map (fun p => p.1)) (hr : RpA K F (kvs.map fun p => p.2) (es.map fun p => p.2)) :
    (putK kvs k v).map (fun p => p.1) = (putE es k d).map (fun p => p.1) ∧ RpA K F ((putK kvs k v).map fun p => p.2) ((putE es k d).map fun p => p.2) := by
  unfold putK putE
  rw [any_keys hn]
  split
  · exact repl_rp r hn hr
  · rw [List.map_append, List.map_append, List.map_append, List.map_append, hn]
    exact ⟨rfl, hr.app (.cons r .nil)⟩
theorem dropE_rp {k : Key} : ∀ {kvs : List (Key × V)} {es : List (Key × D)}, kvs.map (fun p => p.1) = es.map (fun p => p.1) → RpA K F (kvs.map fun p => p.2) (es.map fun p => p.2) →
    (dropK kvs k).map (fun p => p.1) = (dropE es k).map (fun p => p.1) ∧ RpA K F ((dropK kvs k).map fun p => p.2) ((dropE es k).map fun p => p.2)
  | [], [], _, _ => ⟨rfl, .nil⟩
  | [], _ :: _, h, _ => by cases h
  | _ :: _, [], h, _ => by cases h
  | (a, u) :: kvs, (b, e) :: es, hn, hr => by
    have hab : a = b := by
      have := congrArg List.head? hn
      simpa using this
    have hn' : kvs.map (fun p => p.1) = es.map (fun p => p.1) := by
      have := congrArg List.tail hn
      simpa using this
    subst hab
    have hr' : RpA K F (u :: kvs.map fun p => p.2) (e :: es.map fun p => p.2) := hr
    cases hr' with
    | cons r1 r2 =>
      obtain ⟨i1, i2⟩ := dropE_rp (k := k) hn' r2
      unfold dropK dropE at *
      by_cases z : a = k
      · have z1 : decide ((a, u).1 ≠ k) = false := decide_eq_false (fun q => q z)
        have z2 : decide ((a, e).1 ≠ k) = false := decide_eq_false (fun q => q z)
        rw [List.filter_cons, List.filter_cons, z1]
        exact ⟨i1, i2⟩
      · have z1 : decide ((a, u).1 ≠ k) = true := decide_eq_true z
        have z2 : decide ((a, e).1 ≠ k) = true := decide_eq_true z
        rw [List.filter_cons, List.filter_cons, z1]
        exact ⟨by rw [if_pos rfl, if_pos rfl, List.map_cons, List.map_cons, i1], .cons r1 i2⟩
end
section
variable {K : PySem.W.Frag} {M M1 M2 : Sto} {G G' G1 : List Sl} {te td ty tv to tx : TE} {ta tr : TA} {t u : TT} {tu tw tz : TS} {d a b : D} {ds l : List D} {X : XK} {P P1 : Out → Sto → Prop} {R : Res → Sto → Prop} {o : Out} {g : TG} {es : List (Key × D)} {k : Key} {C : Addr}
theorem e_dget (h : EvD K td G (.dic es)) (h2 : EvD K ty G (keyD k)) (hk : valE es k = some d) : EvD K (tDGet td ty) G d := .mk fun {H0 F0 F H σ} E Q q =>
  h E _ fun v F1 H1 E1 f1 g1 n1 r1 => h2 E1 _ fun w F2 H2 E2 f2 g2 n2 r2 => by
    cases r1 with
    | dic ha hn hr =>
      obtain ⟨v, k1, k2⟩ := (valE_rp hn hr).1 d hk
      have hw := key_rp r2
      subst hw
      exact ⟨_, v, rfl, by rw [← k1]; exact DGet.k (E2.ef _ _ (f2 _ _ ha)), q v F2 H2 E2 (f1.trans f2) (g1.trans g2) (n1.trans n2 g1) (k2.mono f2)⟩
theorem e_din (h2 : EvD K ty G (keyD k)) (h : EvD K td G (.dic es)) : EvD K (tDIn ty td) G (.bl (valE es k).isSome) := .mk fun {H0 F0 F H σ} E Q q =>
  h2 E _ fun w F1 H1 E1 f1 g1 n1 r2 => h E1 _ fun v F2 H2 E2 f2 g2 n2 r1 => by
    cases r1 with
    | dic ha hn hr =>
      have hw := key_rp r2
      subst hw
      have he : ∀ kvs : List (Key × V), kvs.map (fun p => p.1) = es.map (fun p => p.1) → RpA K F2 (kvs.map fun p => p.2) (es.map fun p => p.2) → (valV kvs k).isSome = (valE es k).isSome := fun kvs hn hr => by
        cases q : valE es k with
        | none =>
          rw [(valE_rp hn hr).2 q]
          rfl
        | some d =>
          obtain ⟨v, k1, _⟩ := (valE_rp hn hr).1 d q
          rw [k1]
          rfl
      refine ⟨_, _, rfl, DGet.k (E2.ef _ _ ha), ?_⟩
      rw [he _ hn hr]
      exact q _ F2 H2 E2 (f1.trans f2) (g1.trans g2) (n1.trans n2 g1) (.bl _)
theorem e_dnotin (h2 : EvD K ty G (keyD k)) (h : EvD K td G (.dic es)) : EvD K (tDNotIn ty td) G (.bl (!(valE es k).isSome)) := .mk fun {H0 F0 F H σ} E Q q =>
  h2 E _ fun w F1 H1 E1 f1 g1 n1 r2 => h E1 _ fun v F2 H2 E2 f2 g2 n2 r1 => by
    cases r1 with
    | dic ha hn hr =>
      have hw := key_rp r2
      subst hw
      have he : ∀ kvs : List (Key × V), kvs.map (fun p => p.1) = es.map (fun p => p.1) → RpA K F2 (kvs.map fun p => p.2) (es.map fun p => p.2) → (valV kvs k).isSome = (valE es k).isSome := fun kvs hn hr => by
        cases q : valE es k with
        | none =>
          rw [(valE_rp hn hr).2 q]
          rfl
        | some d =>
          obtain ⟨v, k1, _⟩ := (valE_rp hn hr).1 d q
          rw [k1]
          rfl
      refine ⟨_, _, rfl, DGet.k (E2.ef _ _ ha), ?_⟩
      rw [he _ hn hr]
      exact q _ F2 H2 E2 (f1.trans f2) (g1.trans g2) (n1.trans n2 g1) (.bl _)
theorem r_dget (h : EvR K td M G (.dic es)) (h2 : EvR K ty M G (keyD k)) (hk : valE es k = some d) : EvR K (tDGet td ty) M G d := ⟨fun {H0 F0 F H σ} E Q q =>
  h.run E _ fun v F1 H1 E1 f1 r1 => h2.run E1 _ fun w F2 H2 E2 f2 r2 => by
    cases r1 with
    | dic ha hn hr =>
      obtain ⟨v, k1, k2⟩ := (valE_rp hn hr).1 d hk
      have hw := key_rp r2
      subst hw
      exact ⟨_, v, rfl, by rw [← k1]; exact DGet.k (E2.en.ef _ _ (f2 _ _ ha)), q v F2 H2 E2 (f1.trans f2) (k2.mono f2)⟩⟩
theorem r_dgetP {p : Addr} (h : EvR K td M G (.ptr p)) (hm : M p = some (.dic es)) (h2 : EvR K ty M G (keyD k)) (hk : valE es k = some d) : EvR K (tDGet td ty) M G d := ⟨fun {H0 F0 F H σ} E Q q =>
  h.run E _ fun v F1 H1 E1 f1 r1 => h2.run E1 _ fun w F2 H2 E2 f2 r2 => by
    cases r1
    obtain ⟨_, o, ha, hb⟩ := E2.st p _ hm
    cases hb with
    | dic hn hr =>
      obtain ⟨v, k1, k2⟩ := (valE_rp hn hr).1 d hk
      have hw := key_rp r2
      subst hw
      exact ⟨_, v, rfl, by rw [← k1]; exact DGet.k ha, q v F2 H2 E2 (f1.trans f2) k2⟩⟩
/-! orders that change one cell -/
theorem m_fld {p : Addr} {f : Str} (h : EvM K tv X M G R) (ho : ∀ d M', R (.ok d) M' → EvR K to M' G (.ptr p) ∧ ∃ fs, M' p = some (.ins C fs) ∧ fs.length < 1000 ∧ P (.nx G) (updM M' p (.ins C (putD f d fs)))) (hc : Cls K C) (hn : NoAttr K C f) (hx : ∀ C M', R (.exc C) M' → P (.ex C X) M') :
    StM K (sFld K to tv f) M G P := ⟨fun {H0 F0 F H σ E} En pp => h.run En _ (fun d M' q v F1 H1 E1 f1 r1 => by
  obtain ⟨h1, fs, h2, h3, h4⟩ := ho d M' q
  refine h1.run E1 _ fun w F2 H2 E2 f2 r2 => ?_
  cases r2
  obtain ⟨_, o, k1, k2⟩ := E2.st p _ h2
  cases k2 with
  | ins k3 k4 =>
    refine ⟨p, C, _, _, rfl, k1, hc, hn, ?_, ?_⟩
    · have := congrArg List.length k3
      rw [List.length_map, List.length_map] at this
      rw [this]
      exact h3
    · obtain ⟨j1, j2⟩ := putF_putD (f := f) (r1.mono f2) k3 k4
      exact pp _ _ h4 σ F2 _ (E2.put h2 (.ins j1 j2)) (f1.trans f2)) fun C M' q F1 H1 E1 f1 => pp _ _ (hx C M' q) F1 H1 E1.rom⟩
theorem m_app {p : Addr} (h : EvR K to M G (.ptr p)) (hm : M p = some (.lst l)) (he : EvR K te M G d) (hz : l.length < 100000) (hp : P (.nx G) (updM M p (.lst (l ++ [d])))) : StM K (tDrop (tBM K "list" rAppend to (tCons te tNil))) M G P := ⟨fun {H0 F0 F H σ E} En pp => by
  unfold tDrop tBM
  refine h.run En _ fun v F1 H1 E1 f1 r1 => ?_
  cases r1
  obtain ⟨_, o, k1, k2⟩ := E1.st p _ hm
  cases k2 with
  | lst k3 =>
    refine ⟨Or.inl ⟨rfl, _, sq_of k1⟩, ?_⟩
    refine he.run E1 _ fun w F2 H2 E2 f2 r2 => ?_
    obtain ⟨_, o2, j1, j2⟩ := E2.st p _ hm
    cases j2 with
    | lst j3 =>
      refine ⟨p, _, w, rfl, rfl, j1, sz_lt (by rw [j3.length]; exact hz), ?_⟩
      exact pp _ _ hp σ F2 _ (E2.put hm (.lst (j3.app (.cons r2 .nil)))) (f1.trans f2)⟩
theorem RpA.dropLast {F : Hp} : ∀ {vs : List V} {ds : List D}, RpA K F vs ds → RpA K F vs.dropLast ds.dropLast := fun {vs ds} h => by
  rw [List.dropLast_eq_take, List.dropLast_eq_take, h.length]
  exact h.take _
theorem e_mpop {p : Addr} (h : EvR K to M G (.ptr p)) (hm : M p = some (.lst l)) (hl : l[l.length - 1]? = some d) (hp : R (.ok d) (updM M p (.lst l.dropLast))) : EvM K (tBM0 K "list" rPop to) X M G R := ⟨fun {H0 F0 F H σ} E Q q qx => by
  unfold tBM0
  refine h.run E _ fun v F1 H1 E1 f1 r1 => ?_
  cases r1
  obtain ⟨_, o, k1, k2⟩ := E1.st p _ hm
  cases k2 with
  | lst k3 =>
    refine ⟨Or.inl ⟨rfl, _, sq_of k1⟩, ?_⟩
    obtain ⟨w, j1, j2⟩ := k3.get hl
    refine ⟨p, _, w, rfl, rfl, k1, by rw [k3.length]; exact j1, ?_⟩
    exact q d _ hp w F1 _ (E1.put hm (.lst (RpA.dropLast k3))) f1 j2⟩
theorem m_dput {p : Addr} (hv : EvR K tv M G d) (h : EvR K td M G (.ptr p)) (hm : M p = some (.dic es)) (hk : EvR K ty M G (keyD k)) (hz : es.length < 100000) (hp : P (.nx G) (updM M p (.dic (putE es k d)))) : StM K (sDPut td ty tv) M G P := ⟨fun {H0 F0 F H σ E} En pp => by
  unfold sDPut
  refine hv.run En _ fun v F1 H1 E1 f1 r1 => h.run E1 _ fun w F2 H2 E2 f2 r2 => hk.run E2 _ fun y F3 H3 E3 f3 r3 => ?_
  cases r2
  have hy := key_rp r3
  subst hy
  obtain ⟨_, o, k1, k2⟩ := E3.st p _ hm
  cases k2 with
  | dic k3 k4 =>
    obtain ⟨j1, j2⟩ := putE_rp (k := k) (r1.mono (f2.trans f3)) k3 k4
    have hl := congrArg List.length k3
    rw [List.length_map, List.length_map] at hl
    exact ⟨p, _, rfl, DPut.k k1 (sz_lt (by rw [hl]; exact hz)), pp _ _ hp σ F3 _ (E3.put hm (.dic j1 j2)) ((f1.trans f2).trans f3)⟩⟩
theorem m_ddel {p : Addr} (h : EvR K td M G (.ptr p)) (hm : M p = some (.dic es)) (hk : EvR K ty M G (keyD k)) (hi : (valE es k).isSome = true) (hp : P (.nx G) (updM M p (.dic (dropE es k)))) : StM K (sDDel td ty) M G P := ⟨fun {H0 F0 F H σ E} En pp => by
  unfold sDDel
  refine h.run En _ fun w F2 H2 E2 f2 r2 => hk.run E2 _ fun y F3 H3 E3 f3 r3 => ?_
  cases r2
  have hy := key_rp r3
  subst hy
  obtain ⟨_, o, k1, k2⟩ := E3.st p _ hm
  cases k2 with
  | dic k3 k4 =>
    obtain ⟨j1, j2⟩ := dropE_rp (k := k) k3 k4
    refine ⟨p, _, k, rfl, k1, rfl, ?_, pp _ _ hp σ F3 _ (E3.put hm (.dic j1 j2)) (f2.trans f3)⟩
    cases q : valE es k with
    | none =>
      rw [q] at hi
      cases hi
    | some d =>
      obtain ⟨v, i1, _⟩ := (valE_rp k3 k4).1 d q
      rw [i1]
      rfl⟩

/-! promises over the store -/
abbrev RelM := List D → Sto → (Res → Sto → Prop) → Prop
def spM (K : PySem.W.Frag) (Rel : RelM) : Sp := fun vs H Q E => ∃ F ds M P, Ex F H ∧ RpA K F vs ds ∧ Cells K F M H ∧ Rel ds M P ∧ ∀ r M', P r M' → match r with
  | .ok d => ∀ v F' H', RoM K (unseen M H) F F' M' H' → Rp K F' v d → Q v H'
  | .exc C => ∀ F' H', RoM K (unseen M H) F F' M' H' → E (.ref C) none H'
theorem spM_len {Rel : RelM} {vs : List V} {H : Hp} {Q : VK} {E : XK} {n : Nat} (hR : ∀ ds M P, Rel ds M P → ds.length = n) (h : spM K Rel vs H Q E) : vs.length = n := by
  obtain ⟨F, ds, M, P, _, r, _, h1, _⟩ := h
  rw [r.length, hR ds M P h1]
/-- what a def's outcomes are told as -/
def OutP (P : Res → Sto → Prop) (X : XK) : Out → Sto → Prop := fun o M => match o with
  | .nx _ => P (.ok .non) M
  | .rt d => P (.ok d) M
  | .ro l => ∀ p, M p = none → P (.ok (.ptr p)) (updM M p (.lst l))
  | .ex C X' => X' = X ∧ P (.exc C) M
  | _ => False
theorem args_own {n i : Nat} {w : Ow} : (args n ds)[i]? ≠ some (.own w) := fun h => by
  unfold args at h
  by_cases hi : i < ds.length
  · rw [List.getElem?_append_left (by rw [List.length_map]; exact hi), List.getElem?_map] at h
    cases q : ds[i]? with
    | none =>
      rw [q] at h
      cases h
    | some e =>
      rw [q] at h
      cases h
  · rw [List.getElem?_append_right (by rw [List.length_map]; omega), List.length_map] at h
    have := List.mem_of_getElem? h
    rw [List.mem_replicate] at this
    cases this.2
theorem unseen_le {H : Hp} : Ex (unseen M H) H := fun a x q => by
  cases hm : M a with
  | none =>
    rw [unseen_none hm] at q
    exact q
  | some n =>
    rw [unseen_some hm] at q
    cases q
theorem body_M {N : List Str} {Rel : RelM} {vs : List V} {H : Hp} {Q : VK} {E : XK} {t : XK → TS} (h : spM K Rel vs H Q E) (hn : ∀ ds M P, Rel ds M P → ds.length ≤ N.length)
    (hb : ∀ ds M P (E : XK), Rel ds M P → StM K (t E) M (args N.length ds) (OutP P E)) : t E { nx := fun _ H' => Q .non H', rt := Q } (start N vs) H := by
  obtain ⟨F, ds, M, P, e, ra, c, hR, q⟩ := h
  have E0 := start_en e ra (hn ds M P hR)
  have E1 : EnM K (unseen M H) F F M H (L2.start N vs) (args N.length ds) := ⟨⟨E0.dat, fun i w z => absurd z args_own, E0.dis, unseen_le, e, Ex.refl F, fun a o z => .inl z, E0.len⟩, c, fun a n z => unseen_some z, fun i w p z => absurd z args_own⟩
  refine (hb ds M P E hR).run E1 fun o M' z => ?_
  cases o with
  | nx G => exact fun σ F' H' E' f' => q _ M' z .non F' H' ⟨⟨E'.en.e0, E'.en.ef, E'.en.e1, E'.en.nf⟩, E'.st, E'.h0⟩ .non
  | rt d => exact fun v F' H' ro r => q _ M' z v F' H' ro r
  | ex C X' =>
    obtain ⟨z1, z2⟩ := z
    subst z1
    exact fun F' H' ro => q _ M' z2 F' H' ro
  | bk G => exact z.elim
  | ct G => exact z.elim
  | ro l => exact fun p xs F' H' ro k0 k1 k2 k3 k4 => q _ _ (z p k2) (.ref p) F' H' ⟨ro.ro, fun a n y => by
      by_cases ha : a = p
      · subst ha
        rw [updM_same] at y
        cases y
        exact ⟨k1, _, k3, .lst k4⟩
      · rw [updM_ne ha] at y
        exact ro.st a n y, fun a n y => by
      by_cases ha : a = p
      · subst ha
        exact k0
      · rw [updM_ne ha] at y
        exact ro.h0 a n y⟩ (.ptr p)
  | ro2 l m => exact z.elim
theorem EnM.calledEn {H0 F0 F H F' H' : Hp} {σ : L2.St} (E : EnM K H0 F0 F M H σ G) (ro : RoM K (unseen M H) F F' M1 H') : En K H0 F0 F' H' σ G where
  dat := fun i d h => by
    obtain ⟨v, a, b⟩ := E.en.dat i d h
    exact ⟨v, a, b.mono ro.ro.e1⟩
  own := fun i w h => by
    obtain ⟨p, o, a, b, c, d, r⟩ := E.en.own i w h
    have hm := E.ow i w p h a
    refine ⟨p, o, a, ?_, c, ro.ro.e0 p o (by rw [unseen_none hm]; exact d), r.mono ro.ro.e1⟩
    cases q : F' p with
    | none => rfl
    | some u =>
      rcases ro.ro.nf p u q with z | z
      · rw [b] at z
        cases z
      · rw [unseen_none hm, d] at z
        cases z
  dis := E.en.dis
  e0 := fun a o h => by
    have hm : M a = none := by
      cases q : M a with
      | none => rfl
      | some n =>
        rw [E.h0 a n q] at h
        cases h
    exact ro.ro.e0 a o (by rw [unseen_none hm]; exact E.en.e0 a o h)
  ef := ro.ro.ef
  e1 := E.en.e1.trans ro.ro.e1
  nf := fun a o h => by
    rcases ro.ro.nf a o h with z | z
    · exact E.en.nf a o z
    · refine .inr ?_
      cases q : M a with
      | none =>
        rw [unseen_none q] at z
        exact ex_none E.en.e0 z
      | some n => exact E.h0 a n q
  len := E.en.len
theorem EnM.called {H0 F0 F H F' H' : Hp} {σ : L2.St} (E : EnM K H0 F0 F M H σ G) (ro : RoM K (unseen M H) F F' M1 H') : EnM K H0 F0 F' M1 H' σ G where
  en := E.calledEn ro
  st := ro.st
  h0 := fun a n h => by
    have z := ro.h0 a n h
    cases q : M a with
    | none =>
      rw [unseen_none q] at z
      exact ex_none E.en.e0 z
    | some n => exact E.h0 a n q
  ow := fun i w p h1 h2 => by
    obtain ⟨p', o, a, b, c, d, r⟩ := E.en.own i w h1
    rw [h2] at a
    cases a
    have hm := E.ow i w p h1 h2
    cases q : M1 p with
    | none => rfl
    | some n =>
      have z := ro.h0 p n q
      rw [unseen_none hm, d] at z
      cases z
theorem e_mcall {Rel : RelM} {Pr : Res → Sto → Prop} (h : EvSR K ta M G ds) (hR : Rel ds M Pr) (hp : ∀ r M', Pr r M' → R r M') : EvM K (tCall (spM K Rel) [] X ta) X M G R := ⟨fun {H0 F0 F H σ} E Q q qx =>
  h.run E _ fun vs F1 H1 E1 f1 r1 => by
    refine ⟨F1, ds, M, Pr, E1.en.ef, by rw [List.append_nil]; exact r1, E1.st, hR, fun r M' z => ?_⟩
    cases r with
    | ok d => exact fun v F2 H2 ro r2 => q d M' (hp _ _ z) v F2 H2 (E1.called ro) (f1.trans ro.ro.e1) r2
    | exc C => exact fun F2 H2 ro => qx C M' (hp _ _ z) F2 H2 (E1.called ro) (f1.trans ro.ro.e1)⟩
theorem e_mmeth {Rel : RelM} {Pr : Res → Sto → Prop} {p : Addr} {m : Str} {fs : List (Str × D)} (h0 : EvR K to M G (.ptr p)) (hm : M p = some (.ins C fs)) (hl : fs.lookup m = none) (h : EvSR K tr M G ds) (hR : Rel (.ptr p :: ds) M Pr) (hp : ∀ r M', Pr r M' → R r M') :
    EvM K (tMeth C m (spM K Rel) [] X to tr) X M G R := ⟨fun {H0 F0 F H σ} E Q q qx =>
  h0.run E _ fun v F1 H1 E1 f1 r1 => by
    cases r1
    obtain ⟨_, o, k1, k2⟩ := E1.st p _ hm
    cases k2 with
    | ins k3 k4 =>
      refine ⟨p, _, _, rfl, k1, lookup_none k3 hl, h.run E1 _ fun vs F2 H2 E2 f2 r2 => ?_⟩
      refine ⟨F2, .ptr p :: ds, M, Pr, E2.en.ef, by rw [List.append_nil]; exact .cons (.ptr p) r2, E2.st, hR, fun r M' z => ?_⟩
      cases r with
      | ok d => exact fun v F3 H3 ro r3 => q d M' (hp _ _ z) v F3 H3 (E2.called ro) ((f1.trans f2).trans ro.ro.e1) r3
      | exc C => exact fun F3 H3 ro => qx C M' (hp _ _ z) F3 H3 (E2.called ro) ((f1.trans f2).trans ro.ro.e1)⟩
/-- a thing made in the store -/
abbrev RelI := Addr → List D → Sto → (Res → Sto → Prop) → Prop
def spMI (K : PySem.W.Frag) (C : Addr) (Rel : RelI) : Sp := fun vs H Q E => ∃ F H1 x dx ws ds M P, vs = .ref x :: ws ∧ H = upd (upd H1 dx (.own x)) x (.ins C dx []) ∧ H1 x = none ∧ H1 dx = none ∧ dx ≠ x ∧ Ex F H1 ∧ RpA K F ws ds ∧ Cells K F M H1 ∧ Rel x ds M P ∧ ∀ r M', P r M' → match r with
  | .ok _ => ∀ F' H', RoM K (unseen M H1) F F' M' H' → Q .non H'
  | .exc D => ∀ F' H', RoM K (unseen M H1) F F' M' H' → E (.ref D) none H'
theorem spMI_len {Rel : RelI} {vs : List V} {H : Hp} {Q : VK} {E : XK} {n : Nat} (hR : ∀ x ds M P, Rel x ds M P → ds.length = n) (h : spMI K C Rel vs H Q E) : vs.length = n + 1 := by
  obtain ⟨F, H1, x, dx, ws, ds, M, P, rfl, _, _, _, _, _, r, _, h1, _⟩ := h
  rw [List.length_cons, r.length, hR x ds M P h1]
/-- of an __init__, which returns nothing -/
def OutI (P : Res → Sto → Prop) (X : XK) : Out → Sto → Prop := fun o M => match o with
  | .nx _ => P (.ok .non) M
  | .ex C X' => X' = X ∧ P (.exc C) M
  | _ => False
theorem body_MI {N : List Str} {Rel : RelI} {vs : List V} {H : Hp} {Q : VK} {E : XK} {t : XK → TS} (h : spMI K C Rel vs H Q E) (hn : ∀ x ds M P, Rel x ds M P → ds.length + 1 ≤ N.length)
    (hb : ∀ x ds M P (E : XK), M x = none → Rel x ds M P → StM K (t E) (updM M x (.ins C [])) (args N.length (.ptr x :: ds)) (OutI P E)) : t E { nx := fun _ H' => Q .non H', rt := Q } (start N vs) H := by
  obtain ⟨F, H1, x, dx, ws, ds, M, P, rfl, rfl, hx, hdx, hne, e, ra, c, hR, q⟩ := h
  have hF : F x = none := ex_none e hx
  have e2 : Ex H1 (upd (upd H1 dx (.own x)) x (.ins C dx [])) := (Ex.new hdx).trans (Ex.new (by rw [upd_ne (fun z => hne z.symm)]; exact hx))
  have hMx : M x = none := by
    cases z : M x with
    | none => rfl
    | some n =>
      obtain ⟨_, o, z2, _⟩ := c x n z
      rw [hx] at z2
      cases z2
  have E0 := start_en (K := K) (N := N) (vs := .ref x :: ws) (ds := .ptr x :: ds) (e.trans e2) (.cons (.ptr x) ra) (hn x ds M P hR)
  have E1 : EnM K (unseen M H1) F F (updM M x (.ins C [])) (upd (upd H1 dx (.own x)) x (.ins C dx [])) (L2.start N (.ref x :: ws)) (args N.length (.ptr x :: ds)) := by
    refine ⟨⟨E0.dat, fun i w z => absurd z args_own, E0.dis, (unseen_le).trans e2, e.trans e2, Ex.refl F, fun a o z => .inl z, E0.len⟩, fun a n z => ?_, fun a n z => ?_, fun i w p z => absurd z args_own⟩
    · by_cases ha : a = x
      · subst ha
        rw [updM_same] at z
        cases z
        exact ⟨hF, _, upd_same, .ins rfl .nil⟩
      · rw [updM_ne ha] at z
        obtain ⟨z1, o, z2, z3⟩ := c a n z
        exact ⟨z1, o, e2 _ _ z2, z3⟩
    · by_cases ha : a = x
      · subst ha
        rw [unseen_none hMx]
        exact hx
      · rw [updM_ne ha] at z
        exact unseen_some z
  refine (hb x ds M P E hMx hR).run E1 fun o M' z => ?_
  cases o with
  | nx G => exact fun σ F' H' E' f' => q _ M' z F' H' ⟨⟨E'.en.e0, E'.en.ef, E'.en.e1, E'.en.nf⟩, E'.st, E'.h0⟩
  | rt d => exact z.elim
  | ex C X' =>
    obtain ⟨z1, z2⟩ := z
    subst z1
    exact fun F' H' ro => q _ M' z2 F' H' ro
  | bk G => exact z.elim
  | ct G => exact z.elim
  | ro l => exact z.elim
  | ro2 l m => exact z.elim
theorem e_mmake {Rel : RelI} (h : EvSR K ta M G ds) (hR : ∀ x, M x = none → ∃ Pr : Res → Sto → Prop, Rel x ds M Pr ∧ (∀ d M', Pr (.ok d) M' → R (.ok (.ptr x)) M') ∧ ∀ C M', Pr (.exc C) M' → R (.exc C) M') : EvM K (tMake C (spMI K C Rel) [] X ta) X M G R := ⟨fun {H0 F0 F H σ} E Q q qx =>
  h.run E _ fun vs F1 H1 E1 f1 r1 => fun x dx hx hdx hne => by
    obtain ⟨Pr, k1, k2, k3⟩ := hR x (E1.free hx)
    refine ⟨F1, H1, x, dx, vs ++ [], ds, M, Pr, rfl, rfl, hx, hdx, hne, E1.en.ef, by rw [List.append_nil]; exact r1, E1.st, k1, fun r M' z => ?_⟩
    cases r with
    | ok d => exact fun F2 H2 ro => ⟨rfl, q _ M' (k2 d M' z) (.ref x) F2 H2 (E1.called ro) (f1.trans ro.ro.e1) (.ptr x)⟩
    | exc C => exact fun F2 H2 ro => qx C M' (k3 C M' z) F2 H2 (E1.called ro) (f1.trans ro.ro.e1)⟩
end
end Cy

set_option Elab.async false
set_option linter.all false
set_option maxRecDepth 100000
set_option maxHeartbeats 4000000
namespace Cy
open PySem PySem.Spec PyProof.Rows L2 Evl
/-! how many unlike keys a set comprehension finds -/
/-- {elt for target in iter if ..}: Cl z S n is the cell of the set at z, told by its members and their number -/
def tScC (Cl : Addr → (Key → Bool) → Nat → HO) (wi : TI) (g : TG) (tt : TT) (te : TE) (vs : List Nat) : TE := fun σ H Q => wi σ H fun J H1 => ∀ z : Addr, H1 z = none → ∃ W : Nat → Nat → Hp → Prop, (∃ m, W 0 m (upd H1 z (Cl z (fun _ => false) 0))) ∧
  ∀ i m H, W i m H → (J.stop i H ∧ Q (.ref z) H) ∨ (J.go i H ∧ ∃ Nx : Hp → Prop, (∀ H', Nx H' → ∃ m', m' < m ∧ W (i + 1) m' H') ∧
    ∀ x H', J.yld i H x H' → g x (wipe σ vs) H' fun σ2 H2 => wipe σ2 vs = wipe σ vs ∧ tt σ2 H2 fun b H3 => if b = true then te σ2 H3 fun y H4 => ∃ k S n, y = kV k ∧ H4 z = some (Cl z S n) ∧ n + 1 < scanBound ∧ Nx (upd H4 z (Cl z (fun j => S j || decide (j = k)) (if S k = true then n else n + 1))) else Nx H3)
def rLenC (Cl : Addr → (Key → Bool) → Nat → HO) : List V → Hp → VK → Prop := fun xs H Q => ∃ a S n, xs = [.ref a] ∧ H a = some (Cl a S n) ∧ Q (.int (n : Nat)) H
/-- len({elt for target in iter if ..}) -/
def tLenSc (wi : TI) (g : TG) (tt : TT) (te : TE) (vs : List Nat) : TE := fun σ H Q => ∀ Cl : Addr → (Key → Bool) → Nat → HO, tCB (rLenC Cl) (tCons (tScC Cl wi g tt te vs) tNil) σ H Q
section
variable {X : Cx}
theorem call_lenK : CallR X (.builtin "len") (rLenC (SetK X.prog X.w)) := by
  intro pins s σ H xs us Q I r h
  obtain ⟨a, S, n, rfl, ha, q⟩ := h
  cases r with
  | cons rx rr =>
    cases rr
    cases rx
    obtain ⟨o, es, ep, t, ho, hx, hd, _, _, hb, hf, hn⟩ := setK_get I ha
    have hs : es.size < 2 ^ 63 := Nat.lt_trans hb (by decide)
    refine call_len_set ho hx hd hf (by exact_mod_cast hs) ?_
    rw [hn]
    exact ⟨.int n, H, (I.tok _).tok _, ⟨_, rfl⟩, q⟩
/-- adding a key -/
theorem addK_ok {pins : List (Addr × Obj)} {σ : L2.St} {H : Hp} {s : Shared} {E Q : Value → Shared → Prop} {z : Addr} {S : Key → Bool} {n : Nat} {k : Key} {u : Value} (I : Inv X pins σ H s) (hz : H z = some (SetK X.prog X.w z S n)) (hr : RelV (kV k) u) (hn : n + 1 < scanBound)
    (q : ∀ v s', Inv X pins σ (upd H z (SetK X.prog X.w z (fun j => S j || decide (j = k)) (if S k = true then n else n + 1))) s' → Q v s') : wpAny (model X.prog X.w) X.A (call (.builtin "set.add") [.ref z, u]) Q E s := by
  refine call_set_add (kV_is hr) (key_scan hr) (setK_get I hz) hn fun h' same fresh => ?_
  have hu : ∃ o, h'.get? z = some o := ⟨_, fresh.choose_spec.choose_spec.choose_spec.choose_spec.1⟩
  exact q _ _ (I.write (e := z) (t' := s.toks + 1) (by rw [hz]; trivial) (.inl rfl) (fun b o hb ho => (same.2 b hb).trans ho) hu (setK_new fresh))
theorem pe_lenSc {elt tg iter : Expr} {ifs : List Expr} {scope : Scope} {own : List (PySem.Str × Nat)} {pos p pos' : Pos} {wi : TI} {g : TG} {tt : TT} {te : TE} (hc : X.calm = true) (hN : X.N.Nodup) (hgl : Gl X "len") (hml : X.mg "len" = none) (hi : PI X tg iter wi) (ok : BlkOk X.N X.env.scope scope own)
    (hg : ∀ s H C cl fp, PG (X.blk s H scope (compEnvC scope cl C X.env) fp) tg g) (ht : ∀ s H C cl fp, PTs (X.blk s H scope (compEnvC scope cl C X.env) fp) ifs tt) (he : ∀ s H C cl fp, PE (X.blk s H scope (compEnvC scope cl C X.env) fp) elt te) (hs : ∀ x, foldedSetIterable iter X.env x = pure x := by intro _; rfl) :
    PE X (.Call (.Name "len" p) [.SetComp elt [⟨tg, iter, ifs, 0⟩] scope pos] [] pos') (tLenSc wi g tt te (own.map (·.2))) := by
  refine ⟨fun pins s σ H Q I h => ?_⟩
  -- the set as a value
  have hset : PE X (.SetComp elt [⟨tg, iter, ifs, 0⟩] scope pos) (tScC (SetK X.prog X.w) wi g tt te (own.map (·.2))) := by
    refine ⟨fun pins s σ H Q I h => ?_⟩
    rw [PpSet.eval_SetComp]
    have frees : ∀ y ∈ scope.names, y.2 = .free → ∃ c, X.env.cells.lookup y.1 = some c := fun y hy ey => (ok.free y hy ey).elim (fun k => I.ok.has _ (.inl k)) fun k => I.ok.has _ (.inr k)
    refine wpAny_comprehension_free (use := none) rfl hs (closure_ok frees) ok.kind (fun y hy ey => by rw [ok.uniq y hy, ey]) (thn (hi.run pins s σ H _ I h) fun xv sa ha => thn ha fun itv sb hb => ?_)
    obtain ⟨it, fp, tn, J, Hb, rfl, Ib, T, stb, fb, qb⟩ := hb
    refine PpSet.newSet_ok (newEnv_comp ?_)
    generalize hz : sb.heap.objs.size = z
    obtain ⟨W, ⟨m0, w0⟩, turn⟩ := qb z (Ib.hok.fresh (Nat.le_of_eq hz))
    generalize hsc : ({ sb with heap := sb.heap.push { cls := .type "set", dict := none, data := .set #[] 0 (.fresh 0 0 (!X.w.params.followText "set-order")) } } : Shared) = sc
    have hpc : sc.heap = sb.heap.push { cls := .type "set", dict := none, data := .set #[] 0 (.fresh 0 0 (!X.w.params.followText "set-order")) } := by rw [← hsc]
    have up : ∀ b o, sb.heap.get? b = some o → sc.heap.get? b = some o := fun b o eb => by
      rw [hpc]
      exact Heap.get?_push_of_some _ eb
    have empty : sc.heap.SetOf (mixKind X.prog X.w) z (fun _ => false) 0 := by
      rw [hpc, ← hz]
      exact ⟨_, #[], 0, _, Heap.get?_push_size _ rfl, ⟨rfl, rfl, rfl⟩, rfl, (fun e ee => by simp at ee), (fun k => by simp), (by decide), (by rfl), rfl⟩
    have Ic : Inv X pins σ (upd Hb z (SetK X.prog X.w z (fun _ => false) 0)) sc := by
      rw [← hsc]
      refine Ib.laid (t' := sb.toks) (fun b o eb => Heap.get?_push_of_some _ eb) (Nat.le_of_eq hz) ?_
      rw [hpc] at empty
      exact setK_new empty
    have below : ∀ b ∈ fp, b < sb.heap.objs.size := fun b hb => Heap.lt_size (T.obj _ _ stb b hb).choose_spec.1
    have fc : ∀ b ∈ fp, FpOk X pins (upd Hb z (SetK X.prog X.w z (fun _ => false) 0)) b ∧ b < sc.heap.objs.size := fun b hb => by
      have lt := below b hb
      have hbz : b ≠ z := hz ▸ Nat.ne_of_lt lt
      have big : b < sc.heap.objs.size := by
        rw [hpc, Heap.size_push]
        exact Nat.lt_succ_of_lt lt
      refine ⟨⟨?_, (fb b hb).2⟩, big⟩
      rw [upd_ne hbz]
      exact (fb b hb).1
    have stc : tn 0 sc.heap := T.keep _ _ _ stb fun b _ o eb => up b o eb
    generalize hHc : upd Hb z (SetK X.prog X.w z (fun _ => false) 0) = Hc at Ic w0 fc
    have Id := block_start Ic ok hN fc
    have gg := hg sc Hc sc.heap.objs.size (cellsFrom (sc.heap.objs.size + 1) scope.names (cloFrom X.env.cells scope.names [])) fp
    have gt := ht sc Hc sc.heap.objs.size (cellsFrom (sc.heap.objs.size + 1) scope.names (cloFrom X.env.cells scope.names [])) fp
    have ge := he sc Hc sc.heap.objs.size (cellsFrom (sc.heap.objs.size + 1) scope.names (cloFrom X.env.cells scope.names [])) fp
    have nof : ∀ b ∈ fp, Hc b = none := fun b hb => (fc b hb).1.1
    show codeAny _ _ (.compStart _ 0 (.ref it) (.ref z) (compEnvC scope (cellsFrom (sc.heap.objs.size + 1) scope.names (cloFrom X.env.cells scope.names [])) sc.heap.objs.size X.env)) (compPost (model X.prog X.w) X.A X.xe none (EP X pins σ Q) (.ref z) sc.heap.objs.size) { sc with heap := pushCells (sc.heap.push { cls := .type "dict", data := .dict #[] }) scope.names }
    generalize hce : compEnvC scope (cellsFrom (sc.heap.objs.size + 1) scope.names (cloFrom X.env.cells scope.names [])) sc.heap.objs.size X.env = ce at Id gg gt ge ⊢
    have lc : ce.locals = sc.heap.objs.size := by
      rw [← hce]
      rfl
    generalize hsd : ({ sc with heap := pushCells (sc.heap.push { cls := .type "dict", data := .dict #[] }) scope.names } : Shared) = sd at Id ⊢
    have std : tn 0 sd.heap := T.keep _ _ _ stc fun b _ o eb => by
      rw [← hsd]
      exact pushCells_keeps _ _ _ _ (Heap.get?_push_of_some _ eb)
    let Y : Cx := X.blk sc Hc scope ce fp
    have still : ∀ {τ : L2.St} {H' : Hp} {s' : Shared}, Inv Y [] τ H' s' → (∀ b ∈ fp, H' b = none) → ∀ b ∈ fp, FpOk Y [] H' b := fun {τ H' s'} J' nb b hb =>
      ⟨nb b hb, (J'.ok.exf b hb).1, J'.ok.exfs b hb, .inl hb, fun x c ex => (J'.ok.exf b hb).2 x c ex, fun q hq => absurd (show q ∈ ([] : List (Addr × Obj)) ++ [] from hq) (by simp)⟩
    have walk : codeAny (model X.prog X.w) X.A (.compLoop (.SetComp elt [⟨tg, iter, ifs, 0⟩] scope pos) 0 (.ref it) (.ref z) ce) (compPost (model X.prog X.w) X.A X.xe none (EP X pins σ Q) (.ref z) sc.heap.objs.size) sd := by
      refine PpSet.compLoopS_any (fun m s' => ∃ i H', Inv Y [] (wipe σ (own.map (·.2))) H' s' ∧ tn i s'.heap ∧ (∀ b ∈ fp, H' b = none) ∧ W i m H') ?_ m0 ⟨0, Hc, Id, std, nof, w0⟩
      rintro m se ⟨i, He, Ie, ste, ne, we⟩
      rcases turn i m He we with ⟨halt, fin⟩ | ⟨go, Nx, less, step⟩
      · refine thnF (T.done Y rfl rfl rfl hc i [] se _ He (fun _ _ => False) Ie (still Ie ne) ste halt) fun r sf ⟨hr, If⟩ => ?_
        subst hr
        have Ig : Inv X pins σ He sf := Ic.call' (ch := fp) If.os If.base If.hok If.bare fun b hb => ⟨(fc b hb).1.2.2.2.1, (fc b hb).1.2.1, (fc b hb).1.2.2.2.2.1, (fc b hb).1.2.2.2.2.2⟩
        have nl : He sc.heap.objs.size = none := by
          rw [← lc]
          exact If.free
        obtain ⟨names, hn, _⟩ := If.loc
        have hn2 : sf.heap.Ns sc.heap.objs.size names := by
          rw [← lc]
          exact hn
        refine ⟨names, hn2, fun h'' sb' => ?_⟩
        obtain ⟨g0, g1, g2, g3, g4, g5⟩ := Ic.fpOk (Nat.le_refl _) nl
        exact ⟨.ref z, He, Ig.turned (t' := sf.toks) (fun b o hb eb => (sb'.2 b hb).trans eb) g0 g1 g3 g4 g5, rfl, fin⟩
      · refine thnF (T.item Y rfl rfl rfl hc i [] se _ He (fun _ _ => False) Ie (still Ie ne) ste go) fun r sf ⟨u, hr, hf⟩ => ?_
        subst hr
        refine thnF hf fun _ sg ⟨x, Hg, Ig, rg, yg, stg, ng⟩ => ?_
        refine thnF (gg.run _ sg _ Hg x u _ (Ig.pinned (still Ig ng) (T.obj _ _ stg)) rg (step x Hg yg)) fun _ sh ⟨τ, Hh, Ih, wh, qh⟩ => ?_
        refine thnF (gt.run _ sh τ Hh _ Ih qh) fun b si ⟨Hi, Ii, qi⟩ => ?_
        have onward : ∀ {s' : Shared} {H' : Hp}, Inv Y ([] ++ pinsAt fp sg.heap) τ H' s' → Nx H' → ∃ m', m' < m ∧ ∃ i H', Inv Y [] (wipe σ (own.map (·.2))) H' s' ∧ tn i s'.heap ∧ (∀ b ∈ fp, H' b = none) ∧ W i m' H' := fun {s' H'} J' nx => by
          obtain ⟨m', hm, w'⟩ := less H' nx
          have held : ∀ b ∈ fp, ∀ o, sg.heap.get? b = some o → s'.heap.get? b = some o ∧ H' b = none := fun b hb o eo =>
            have q := J'.pin (b, o) (List.mem_append_right _ (List.mem_append_right _ (mem_pinsAt hb eo)))
            ⟨q.1, q.2.1⟩
          have len : (wipe σ (own.map (·.2))).length = τ.length := by rw [← wh, wipe_length]
          refine ⟨m', hm, i + 1, H', (J'.unpinned (pins := [])).weak len (fun j v ej => ?_), T.keep _ _ _ stg fun b hb o eo => (held b hb o eo).1, fun b hb => ?_, w'⟩
          · rw [← wh] at ej
            exact (wipe_some ej).1
          · obtain ⟨o, eo, _⟩ := T.obj _ _ stg b hb
            exact (held b hb o eo).2
        cases b with
        | false =>
          simp only [Bool.false_eq_true, if_false] at qi ⊢
          exact onward Ii qi
        | true =>
          simp only [if_true] at qi ⊢
          refine thnF (ge.run _ si τ Hi _ Ii qi) fun uv sj ⟨yv, Hj, Ij, rj, k, S, n, ey, hzj, hnj, nx⟩ => ?_
          subst ey
          exact addK_ok (X := Y) Ij hzj rj hnj fun v sk Ik => onward Ik nx
    exact PpSet.codeAny_compStart_set walk (T.self X.A 0 _ _ _ std walk)
  -- its length
  exact (pe_callB call_lenK hgl hml (by decide +kernel) (pa_cons hset pa_nil)).run pins s σ H Q I (h (SetK X.prog X.w))
end
end Cy

set_option Elab.async false
set_option linter.all false
set_option maxRecDepth 100000
set_option maxHeartbeats 4000000
namespace Cy
open PySem PySem.Spec PyProof.Rows L2 Evl
/-! targets of several names -/
theorem wipe_set_in : ∀ {vs : List Nat} {τ : L2.St} {i : Nat} {v : Option V}, i ∈ vs → L2.wipe (τ.set i v) vs = L2.wipe τ vs
  | w :: vs, τ, i, v, h => by
    by_cases hv : i ∈ vs
    · show (L2.wipe (τ.set i v) vs).set w none = (L2.wipe τ vs).set w none
      rw [wipe_set_in hv]
    · have hw : i = w := by
        rcases List.mem_cons.mp h with z | z
        · exact z
        · exact absurd z hv
      subst hw
      have out : ∀ {us : List Nat} {τ : L2.St}, i ∉ us → L2.wipe (τ.set i v) us = (L2.wipe τ us).set i v := fun {us} => by
        induction us with
        | nil => intro τ _; rfl
        | cons u us ih =>
          intro τ hu
          have h1 : i ≠ u := fun z => hu (z ▸ List.mem_cons_self)
          have h2 : i ∉ us := fun z => hu (List.mem_cons_of_mem _ z)
          show (L2.wipe (τ.set i v) us).set u none = ((L2.wipe τ us).set u none).set i v
          rw [ih h2, List.set_comm _ _ h1]
      show (L2.wipe (τ.set i v) vs).set i none = (L2.wipe τ vs).set i none
      rw [out hv, List.set_set]
def KeepW (g : TG) (vs : List Nat) : Prop := ∀ (c : L2.St) (x : V) (τ : L2.St) (H : Hp) (Q Q' : L2.St → Hp → Prop), (∀ τ2 H2, L2.wipe τ2 vs = c → Q τ2 H2 → Q' τ2 H2) → L2.wipe τ vs = c → g x τ H Q → g x τ H Q'
def KeepWs (g : TGs) (vs : List Nat) : Prop := ∀ (c : L2.St) (x : List V) (τ : L2.St) (H : Hp) (Q Q' : L2.St → Hp → Prop), (∀ τ2 H2, L2.wipe τ2 vs = c → Q τ2 H2 → Q' τ2 H2) → L2.wipe τ vs = c → g x τ H Q → g x τ H Q'
theorem kw_name {i : Nat} {vs : List Nat} (h : i ∈ vs) : KeepW (gName i) vs := fun c x τ H Q Q' hq e q => hq _ _ (by rw [wipe_set_in h]; exact e) q
theorem kw_nil {vs : List Nat} : KeepWs gNil vs := fun c x τ H Q Q' hq e q => ⟨q.1, hq _ _ e q.2⟩
theorem kw_cons {g : TG} {gs : TGs} {vs : List Nat} (h1 : KeepW g vs) (h2 : KeepWs gs vs) : KeepWs (gCons g gs) vs := fun c x τ H Q Q' hq e q => by
  obtain ⟨v, r, hx, q⟩ := q
  exact ⟨v, r, hx, h1 c v τ H _ _ (fun τ2 H2 e2 q2 => h2 c r τ2 H2 Q Q' hq e2 q2) e q⟩
theorem kw_tup {K : PySem.W.Frag} {gs : TGs} {n : Nat} {vs : List Nat} (h : KeepWs gs vs) : KeepW (gTup K n gs) vs := fun c x τ H Q Q' hq e q => by
  obtain ⟨a, xs, rfl, hs, hl, q⟩ := q
  exact ⟨a, xs, rfl, hs, hl, h c xs τ H Q Q' hq e q⟩
theorem wipe_twice {vs : List Nat} {σ : L2.St} : ∀ {us : List Nat}, (∀ u ∈ us, u ∈ vs) → L2.wipe (L2.wipe σ us) vs = L2.wipe σ vs
  | [], _ => rfl
  | u :: us, h => by
    show L2.wipe ((L2.wipe σ us).set u none) vs = L2.wipe σ vs
    rw [wipe_set_in (h u List.mem_cons_self)]
    exact wipe_twice fun v hv => h v (List.mem_cons_of_mem _ hv)
theorem keeps_of {g : TG} {vs : List Nat} (h : KeepW g vs) : Keeps g vs := fun x σ H Q q => h (L2.wipe σ vs) x (L2.wipe σ vs) H Q _ (fun τ2 H2 e q2 => ⟨e, q2⟩) (wipe_twice fun u hu => hu) q

/-! a cell that no one else knows -/
theorem En.aside {K : PySem.W.Frag} {H0 F0 F H : Hp} {σ : L2.St} {G : List Sl} (E : Cy.En K H0 F0 F H σ G) {z : Addr} {o : HO} (hF : F z = none) (h0 : H0 z = none) (hw : ∀ (i : Nat) (w : Ow), G[i]? = some (.own w) → σ[i]? ≠ some (some (.ref z))) : Cy.En K H0 F0 F (upd H z o) σ G where
  dat := E.dat
  own := fun i w h => by
    obtain ⟨p, u, a, b, c, d, r⟩ := E.own i w h
    have hne : p ≠ z := fun q => by
      subst q
      exact hw i w h a
    exact ⟨p, u, a, b, c, by rw [upd_ne hne]; exact d, r⟩
  dis := E.dis
  e0 := fun a u q => by
    have hne : a ≠ z := fun y => by
      subst y
      rw [h0] at q
      cases q
    rw [upd_ne hne]
    exact E.e0 a u q
  ef := fun a u q => by
    have hne : a ≠ z := fun y => by
      subst y
      rw [hF] at q
      cases q
    rw [upd_ne hne]
    exact E.ef a u q
  e1 := E.e1
  nf := E.nf
  len := E.len
theorem En.freeW {K : PySem.W.Frag} {H0 F0 F H : Hp} {σ : L2.St} {G : List Sl} (E : Cy.En K H0 F0 F H σ G) {a : Addr} (h : H a = none) : ∀ (i : Nat) (w : Ow), G[i]? = some (.own w) → σ[i]? ≠ some (some (.ref a)) := fun i w q z => by
  obtain ⟨p, u, a1, b1, c1, d1, r1⟩ := E.own i w q
  rw [z] at a1
  cases a1
  rw [h] at d1
  cases d1
theorem nw_none {F F' H : Hp} {z : Addr} {o : HO} (n : Nw F F' H) (hF : F z = none) (hH : H z = some o) : F' z = none := by
  cases q : F' z with
  | none => rfl
  | some u =>
    rcases n z u q with y | y
    · rw [hF] at y
      cases y
    · rw [hH] at y
      cases y

/-- the number of unlike keys -/
def memK (l : List Key) (k : Key) : Bool := l.any fun j => decide (j = k)
theorem memK_iff {l : List Key} {k : Key} : memK l k = true ↔ k ∈ l := by
  unfold memK
  rw [List.any_eq_true]
  exact ⟨fun ⟨j, hj, e⟩ => (of_decide_eq_true e) ▸ hj, fun h => ⟨k, h, decide_eq_true rfl⟩⟩
def cntK : List Key → Nat
  | [] => 0
  | k :: r => if memK r k = true then cntK r else cntK r + 1
theorem cntK_le : ∀ l : List Key, cntK l ≤ l.length
  | [] => Nat.le_refl 0
  | k :: r => by
    have := cntK_le r
    unfold cntK
    rw [List.length_cons]
    split <;> omega
theorem cntK_nodup : ∀ {l : List Key}, cntK l = l.length ↔ l.Nodup
  | [] => ⟨fun _ => List.nodup_nil, fun _ => rfl⟩
  | k :: r => by
    have hl := cntK_le r
    unfold cntK
    rw [List.nodup_cons, List.length_cons, ← cntK_nodup (l := r)]
    by_cases h : memK r k = true
    · rw [if_pos h]
      exact ⟨fun q => by omega, fun q => absurd (memK_iff.mp h) q.1⟩
    · rw [if_neg h]
      exact ⟨fun q => ⟨fun z => h (memK_iff.mpr z), by omega⟩, fun q => by omega⟩
/-- a walk that fills a set -/
theorem sc_it {J : It} {n : Nat} {Gp : Hp → Prop} {Y : Nat → Hp → V → Hp → Prop} (w : Walk J n Gp Y) {g : TG} {tt : TT} {te : TE} {vs : List Nat} {σ : L2.St} {H1 : Hp} {z : Addr} {Cl : Addr → (Key → Bool) → Nat → HO} {Qd : Hp → Prop} (Pv : Nat → Hp → Prop) (h0 : Pv 0 (upd H1 z (Cl z (fun _ => false) 0))) (hG : ∀ i H, i ≤ n → Pv i H → Gp H)
    (hs : ∀ i x H H', i < n → Pv i H → Y i H x H' → g x (wipe σ vs) H' fun σ2 H2 => wipe σ2 vs = wipe σ vs ∧ tt σ2 H2 fun b H3 => if b = true then te σ2 H3 fun y H4 => ∃ k S m, y = kV k ∧ H4 z = some (Cl z S m) ∧ m + 1 < scanBound ∧ Pv (i + 1) (upd H4 z (Cl z (fun j => S j || decide (j = k)) (if S k = true then m else m + 1))) else Pv (i + 1) H3) (hd : ∀ H, Pv n H → Qd H) :
    ∃ W : Nat → Nat → Hp → Prop, (∃ m, W 0 m (upd H1 z (Cl z (fun _ => false) 0))) ∧ ∀ i m H, W i m H → (J.stop i H ∧ Qd H) ∨ (J.go i H ∧ ∃ Nx : Hp → Prop, (∀ H', Nx H' → ∃ m', m' < m ∧ W (i + 1) m' H') ∧
      ∀ x H', J.yld i H x H' → g x (wipe σ vs) H' fun σ2 H2 => wipe σ2 vs = wipe σ vs ∧ tt σ2 H2 fun b H3 => if b = true then te σ2 H3 fun y H4 => ∃ k S n, y = kV k ∧ H4 z = some (Cl z S n) ∧ n + 1 < scanBound ∧ Nx (upd H4 z (Cl z (fun j => S j || decide (j = k)) (if S k = true then n else n + 1))) else Nx H3) :=
  ⟨fun i m H => m + i = n ∧ Pv i H, ⟨n, rfl, h0⟩, fun i m H hW => by
    obtain ⟨e, p⟩ := hW
    rcases Nat.eq_or_lt_of_le (show i ≤ n by omega) with hi | hi
    · subst hi
      exact .inl ⟨w.stops H (hG _ H (Nat.le_refl _) p), hd H p⟩
    · exact .inr ⟨w.goes i H hi (hG i H (by omega) p), Pv (i + 1), fun H' p' => ⟨m - 1, by omega, by omega, p'⟩, fun x H' y => hs i x H H' hi p (w.yields i H x H' hi (hG i H (by omega) p) y)⟩⟩
section
variable {K : PySem.W.Frag} {G : List Sl} {te tk tv : TE} {g : TG}
theorem e_lenSc {wi : TI} {items : List D} {vs : List Nat} (f : D → Key) (T : D → List Sl) (hk : Keeps g vs) (hi : ItD K wi G items) (hz : items.length ≤ 1000) (ht : ∀ d, d ∈ items → TgD K g (wipeG G vs) d (T d)) (hv : ∀ d, d ∈ items → EvD K te (T d) (keyD (f d))) :
    EvD K (tLenSc wi g tYes te vs) G (.int (cntK (items.map f).reverse : Nat)) := .mk fun {H0 F0 F H σ} E Q q Cl => by
  unfold tCB tCons tScC
  refine hi E _ fun J F1 H1 E1 f1 g1 n1 wk => ?_
  obtain ⟨Gp, Y, w, hg, hy⟩ := wk.ex
  intro z hz1
  have hsb : scanBound = 4096 := rfl
  refine sc_it (Cl := Cl) w (fun i H' => ∃ F', Cy.En K H0 F0 F' H' σ G ∧ Ex F1 F' ∧ Ex H1 H' ∧ Nw F1 F' H1 ∧ F' z = none ∧ H' z = some (Cl z (fun k => memK ((items.map f).take i) k) (cntK ((items.map f).take i).reverse))) ?_ (fun i H' _ ⟨F', E', e', _⟩ => hg H' (e'.trans E'.ef)) ?_ ?_
  · refine ⟨F1, E1.grow (Ex.refl _) (Ex.new hz1) (E1.ef.trans (Ex.new hz1)) (Nw.refl _ _), Ex.refl _, Ex.new hz1, Nw.refl _ _, ex_none E1.ef hz1, ?_⟩
    rw [upd_same]
    have : (fun k => memK ((items.map f).take 0) k) = fun _ : Key => false := by
      funext k
      rw [List.take_zero]
      rfl
    rw [this, List.take_zero]
    rfl
  · rintro i x H2 H3 hlt ⟨F', E', e', gg, nn, hF, hH⟩ y
    obtain ⟨F2, d, k1, k2, k3, k4, hd2, r2⟩ := hy i H2 x H3 F' e' E'.ef y
    have E3 : Cy.En K H0 F0 F2 H3 σ G := E'.grow k1 k2 k3 k4
    have hm : d ∈ items := List.mem_of_getElem? hd2
    refine hk x σ H3 _ ?_
    refine ht d hm (E3.wipe vs) r2 _ fun σ4 E4 => ?_
    have hH3 := k2 _ _ hH
    have hF2 := nw_none k4 hF hH
    show te σ4 H3 _
    refine hv d hm E4 _ fun v6 F6 H6 E6 f6 g6 n6 r6 => ?_
    have hk6 := key_rp r6
    subst hk6
    have hH6 := g6 _ _ hH3
    have hF6 := nw_none n6 hF2 hH3
    have n6' : Nw F1 F6 H1 := (nn.trans k4 gg).trans n6 (gg.trans k2)
    have E6' : Cy.En K H0 F0 F6 H6 σ G := E3.grow f6 g6 E6.ef n6
    have hcl : cntK ((items.map f).take i).reverse ≤ 1000 := by
      refine Nat.le_trans (cntK_le _) ?_
      rw [List.length_reverse, List.length_take, List.length_map]
      omega
    refine ⟨f d, _, _, rfl, hH6, by rw [hsb]; omega, F6, E6'.aside hF6 (ex_none E1.e0 hz1) (fun j w hj hs => ?_), (e'.trans k1).trans f6, Ex.mut ((gg.trans k2).trans g6) hz1, n6', hF6, ?_⟩
    · exact E1.freeW hz1 j w hj hs
    · rw [upd_same]
      have hi2 : (items.map f)[i]? = some (f d) := by rw [List.getElem?_map, hd2]; rfl
      have hs2 : (items.map f).take (i + 1) = (items.map f).take i ++ [f d] := by rw [List.take_succ, hi2]; rfl
      rw [hs2, List.reverse_append]
      have e1 : (fun k => memK ((items.map f).take i ++ [f d]) k) = fun k => memK ((items.map f).take i) k || decide (k = f d) := by
        funext k
        rw [Bool.eq_iff_iff, Bool.or_eq_true, memK_iff, memK_iff, decide_eq_true_iff, List.mem_append, List.mem_singleton]
      have e2 : cntK ([f d].reverse ++ ((items.map f).take i).reverse) = if memK ((items.map f).take i) (f d) = true then cntK ((items.map f).take i).reverse else cntK ((items.map f).take i).reverse + 1 := by
        show (if memK ((items.map f).take i).reverse (f d) = true then _ else _) = _
        have e3 : memK ((items.map f).take i).reverse (f d) = memK ((items.map f).take i) (f d) := by
          rw [Bool.eq_iff_iff, memK_iff, memK_iff, List.mem_reverse]
        rw [e3]
        rfl
      rw [e1, e2]
  · rintro H2 ⟨F', E', e', gg, nn, hF, hH⟩
    refine ⟨z, _, _, rfl, hH, ?_⟩
    have hl : (items.map f).take items.length = items.map f := List.take_of_length_le (by rw [List.length_map]; exact Nat.le_refl _)
    rw [hl]
    exact q _ F' H2 E' (f1.trans e') (g1.trans gg) (n1.trans nn g1) (.int _)
/-- {k: v for targets in a list} -/
theorem e_dcL {wi : TI} {items : List D} {vs : List Nat} (f : D → Key) (v : D → D) (T : D → List Sl) (hk : Keeps g vs) (hi : ItD K wi G items) (hz : items.length ≤ 1000) (hn : (items.map f).Nodup) (ht : ∀ d, d ∈ items → TgD K g (wipeG G vs) d (T d)) (h1 : ∀ d, d ∈ items → EvD K tk (T d) (keyD (f d))) (h2 : ∀ d, d ∈ items → EvD K tv (T d) (v d)) :
    EvD K (tDc wi g tYes tk tv vs) G (.dic (items.map fun d => (f d, v d))) := .mk fun {H0 F0 F H σ} E Q q => by
  unfold tDc
  refine hi E _ fun J F1 H1 E1 f1 g1 n1 wk => ?_
  obtain ⟨Gp, Y, w, hg, hy⟩ := wk.ex
  intro z hz1
  refine ⟨fun i m H' => m + i = items.length ∧ ∃ F' kvs, Cy.En K H0 F0 F' H' σ G ∧ Ex F1 F' ∧ Ex H1 H' ∧ Nw F1 F' H1 ∧ F' z = none ∧ H' z = some (.dK kvs) ∧ kvs.map (fun p => p.1) = (items.take i).map f ∧ RpA K F' (kvs.map fun p => p.2) ((items.take i).map v), ⟨items.length, rfl, F1, [], E1.grow (Ex.refl _) (Ex.new hz1) (E1.ef.trans (Ex.new hz1)) (Nw.refl _ _), Ex.refl _, Ex.new hz1, Nw.refl _ _, ex_none E1.ef hz1, upd_same, rfl, .nil⟩, ?_⟩
  rintro i m H2 ⟨hm, F', kvs, E', e', gg, nn, hF, hH, hkk, hr⟩
  rcases Nat.eq_or_lt_of_le (show i ≤ items.length by omega) with hlt | hlt
  · subst hlt
    refine .inl ⟨w.stops H2 (hg H2 (e'.trans E'.ef)), ?_⟩
    rw [List.take_length] at hkk hr
    have ef : Ex F' (upd F' z (.dK kvs)) := Ex.new hF
    have e3 : Ex (upd F' z (.dK kvs)) H2 := fun a o y => by
      by_cases ha : a = z
      · subst ha
        rw [upd_same] at y
        cases y
        exact hH
      · rw [upd_ne ha] at y
        exact E'.ef a o y
    have nw : Nw F1 (upd F' z (.dK kvs)) H1 := fun a o y => by
      by_cases ha : a = z
      · subst ha
        exact .inr hz1
      · rw [upd_ne ha] at y
        exact nn a o y
    refine q _ _ H2 (E1.grow (e'.trans ef) gg e3 nw) (f1.trans (e'.trans ef)) (g1.trans gg) (n1.trans nw g1) (.dic upd_same (by rw [hkk, List.map_map]; rfl) ?_)
    rw [List.map_map]
    exact hr.mono ef
  · refine .inr ⟨w.goes i H2 hlt (hg H2 (e'.trans E'.ef)), fun H' => ∃ F' kvs, Cy.En K H0 F0 F' H' σ G ∧ Ex F1 F' ∧ Ex H1 H' ∧ Nw F1 F' H1 ∧ F' z = none ∧ H' z = some (.dK kvs) ∧ kvs.map (fun p => p.1) = (items.take (i + 1)).map f ∧ RpA K F' (kvs.map fun p => p.2) ((items.take (i + 1)).map v), fun H' p' => ⟨m - 1, by omega, by omega, p'⟩, fun x H3 y => ?_⟩
    obtain ⟨F2, d, k1, k2, k3, k4, hd2, r2⟩ := hy i H2 x H3 F' e' E'.ef (w.yields i H2 x H3 hlt (hg H2 (e'.trans E'.ef)) y)
    have E3 : Cy.En K H0 F0 F2 H3 σ G := E'.grow k1 k2 k3 k4
    have hm2 : d ∈ items := List.mem_of_getElem? hd2
    refine hk x σ H3 _ ?_
    refine ht d hm2 (E3.wipe vs) r2 _ fun σ4 E4 => ?_
    have hH3 := k2 _ _ hH
    have hF2 := nw_none k4 hF hH
    show tk σ4 H3 _
    refine h1 d hm2 E4 _ fun v5 F5 H5 E5 f5 g5 n5 r5 => h2 d hm2 E5 _ fun v6 F6 H6 E6 f6 g6 n6 r6 => ?_
    have hk6 := key_rp r5
    subst hk6
    have hH5 := g5 _ _ hH3
    have hF5 := nw_none n5 hF2 hH3
    have hH6 := g6 _ _ hH5
    have hF6 := nw_none n6 hF5 hH5
    have n6' : Nw F1 F6 H1 := ((nn.trans k4 gg).trans n5 (gg.trans k2)).trans n6 ((gg.trans k2).trans g5)
    have E6' : Cy.En K H0 F0 F6 H6 σ G := (E3.grow f5 g5 E5.ef n5).grow f6 g6 E6.ef n6
    have hs2 : items.take (i + 1) = items.take i ++ [d] := by rw [List.take_succ, hd2]; rfl
    have hnew : (kvs.any fun kv => decide (kv.1 = f d)) = false := by
      rw [← Bool.not_eq_true]
      intro hany
      obtain ⟨p, hp, hq⟩ := List.any_eq_true.mp hany
      have hq' := of_decide_eq_true hq
      have hmem : f d ∈ (items.take i).map f := by
        rw [← hkk, ← hq']
        exact List.mem_map.mpr ⟨p, hp, rfl⟩
      have hsub : ((items.take (i + 1)).map f).Nodup := List.Nodup.sublist (List.Sublist.map f (List.take_sublist _ _)) hn
      rw [hs2, List.map_append, List.map_cons, List.map_nil, List.nodup_append] at hsub
      exact hsub.2.2 _ hmem _ (List.mem_singleton.mpr rfl) rfl
    have hput : putK kvs (f d) v6 = kvs ++ [(f d, v6)] := by
      unfold putK
      rw [hnew]
      rfl
    have hlk : kvs.length ≤ i := by
      have := congrArg List.length hkk
      rw [List.length_map, List.length_map, List.length_take] at this
      omega
    refine ⟨kvs, f d, rfl, hH6, sz_lt (by omega), F6, putK kvs (f d) v6, E6'.aside hF6 (ex_none E1.e0 hz1) (fun j w hj hs => E1.freeW hz1 j w hj hs), ((e'.trans k1).trans f5).trans f6, Ex.mut (((gg.trans k2).trans g5).trans g6) hz1, n6', hF6, upd_same, ?_, ?_⟩
    · rw [hput, hs2, List.map_append, List.map_append, hkk]
      rfl
    · rw [hput, hs2, List.map_append, List.map_append]
      exact (hr.mono ((k1.trans f5).trans f6)).app (.cons r6 .nil)
end
end Cy

set_option Elab.async false
set_option linter.all false
set_option maxRecDepth 100000
set_option maxHeartbeats 4000000
namespace Cy
open PySem PySem.Spec PyProof.Rows L2 Evl
section
variable {K : PySem.W.Frag} {M M1 M2 : Sto} {G G' G1 : List Sl} {te td ty tv tb to tx : TE} {ta tr : TA} {t u : TT} {tu tw tz : TS} {d a b c : D} {ds l : List D} {X : XK} {P P1 : Out → Sto → Prop} {R R1 : Res → Sto → Prop} {o : Out} {g : TG} {C : Addr}
theorem e_mof (h : EvM K te X M G R1) (hp : ∀ r M', R1 r M' → R r M') : EvM K te X M G R := ⟨fun {H0 F0 F H σ} E Q q qx => h.run E Q (fun d M' k => q d M' (hp _ _ k)) fun C M' k => qx C M' (hp _ _ k)⟩
/-- what hands something back and leaves the store as it was -/
theorem r_of (h : EvM K te X M G fun r M' => r = .ok d ∧ M' = M) : EvR K te M G d := ⟨fun {H0 F0 F H σ} E Q q => h.run E Q (fun d' M' k v F' H' E' f r => by
  obtain ⟨k1, rfl⟩ := k
  cases k1
  exact q v F' H' E' f r) fun C M' k => nomatch k.1⟩
/-- a raise, seen in a view -/
theorem e_mrs {te : (L2.St → XK) → TE} (h : RsD K te G' C) (w : VwG M G G') (hp : R (.exc C) M) : EvM K (te fun _ => X) X M G R := ⟨fun {H0 F0 F H σ} E Q q qx => h.run (E.view w) (fun _ => X) Q fun F1 H1 E1 f1 g1 n1 => by
  obtain ⟨B, b1, b2, b3⟩ := E.back E1 f1 g1 n1
  exact qx C M hp _ H1 B b1⟩
theorem m_view (h : EvD K te G' d) (w : VwG M G G') (hp : P (.nx G) M) : StM K (tDrop te) M G P := ⟨fun {H0 F0 F H σ E} En p => h (En.view w) _ fun v F1 H1 E1 f1 g1 n1 r1 => by
  obtain ⟨B, b1, b2, b3⟩ := En.back E1 f1 g1 n1
  exact p _ _ hp σ _ H1 B b1⟩
/-- arguments that change the store -/
structure EvSM (K : PySem.W.Frag) (ta : TA) (M : Sto) (G : List Sl) (R : List D → Sto → Prop) : Prop where
  run : ∀ {H0 F0 F H : Hp} {σ : L2.St}, EnM K H0 F0 F M H σ G → ∀ Q : List V → Hp → Prop, (∀ ds M', R ds M' → ∀ vs F' H', EnM K H0 F0 F' M' H' σ G → Ex F F' → RpA K F' vs ds → Q vs H') → ta σ H Q
theorem sm_nil {R : List D → Sto → Prop} (hp : R [] M) : EvSM K tNil M G R := ⟨fun {H0 F0 F H σ} E Q q => q [] M hp [] F H E (Ex.refl F) .nil⟩
theorem sm_cons {R : List D → Sto → Prop} (h : EvM K te X M G R1) (hx : ∀ C M', ¬ R1 (.exc C) M') (hr : ∀ d M', R1 (.ok d) M' → EvSM K tr M' G fun ds M'' => R (d :: ds) M'') : EvSM K (tCons te tr) M G R := ⟨fun {H0 F0 F H σ} E Q q =>
  h.run E _ (fun d M' k v F1 H1 E1 f1 r1 => (hr d M' k).run E1 _ fun ds M'' k2 vs F2 H2 E2 f2 r2 => q (d :: ds) M'' k2 (v :: vs) F2 H2 E2 (f1.trans f2) (.cons (r1.mono f2) r2)) fun C M' k => absurd k (hx C M')⟩
theorem e_mlst {R2 : List D → Sto → Prop} (h : EvSM K ta M G R2) (hl : ∀ ds M', R2 ds M' → ds.length ≤ 100000) (hp : ∀ ds M', R2 ds M' → R (.ok (.lst ds)) M') : EvM K (tLst ta) X M G R := ⟨fun {H0 F0 F H σ} E Q q qx =>
  h.run E _ fun ds M' k vs F1 H1 E1 f1 r1 => ⟨sz_of (by rw [r1.length]; exact hl ds M' k), fun p hpn => by
    have hF : F1 p = none := ex_none E1.en.ef hpn
    have ef : Ex F1 (upd F1 p (.lst vs)) := Ex.new hF
    exact q _ M' (hp ds M' k) (.ref p) (upd F1 p (.lst vs)) _ (E1.grow ef (Ex.new hpn) (ex_upd_both E1.en.ef) (nw_upd hpn (Nw.refl F1 H1))) (f1.trans ef) (.lst upd_same (r1.mono ef))⟩⟩
theorem e_mcb {r : List V → Hp → VK → Prop} (h : EvM K te X M G R1) (hr : ∀ d M', R1 (.ok d) M' → ∃ c, OpN K r [d] c ∧ R (.ok c) M') (hx : ∀ C M', R1 (.exc C) M' → R (.exc C) M') : EvM K (tCB r (tCons te tNil)) X M G R := ⟨fun {H0 F0 F H σ} E Q q qx =>
  h.run E _ (fun d M' k v F1 H1 E1 f1 r1 => by
    obtain ⟨c, k1, k2⟩ := hr d M' k
    exact k1.run E1.en.ef (.cons r1 .nil) Q fun z F3 H3 f3 e3 g3 n3 r3 => q c M' k2 z F3 H3 (E1.grow f3 g3 e3 n3) (f1.trans f3) r3) fun C M' k F1 H1 E1 f1 => qx C M' (hx C M' k) F1 H1 E1 f1⟩
theorem e_mop {r : R2} (h1 : EvM K te X M G R1) (h2 : ∀ d M', R1 (.ok d) M' → ∃ b c, EvR K tb M' G b ∧ Op2 K r d b c ∧ R (.ok c) M') (hx : ∀ C M', R1 (.exc C) M' → R (.exc C) M') : EvM K (tOp r te tb) X M G R := ⟨fun {H0 F0 F H σ} E Q q qx =>
  h1.run E _ (fun d M' k v F1 H1 E1 f1 r1 => by
    obtain ⟨b, c, k1, k2, k3⟩ := h2 d M' k
    exact k1.run E1 _ fun w F2 H2 E2 f2 r2 => k2.run E2.en.ef (r1.mono f2) r2 Q fun z F3 H3 f3 e3 g3 n3 r3 => q c M' k3 z F3 H3 (E2.grow f3 g3 e3 n3) ((f1.trans f2).trans f3) r3) fun C M' k F1 H1 E1 f1 => qx C M' (hx C M' k) F1 H1 E1 f1⟩
theorem e_mandV {y : Bool} (h1 : EvR K te M G (.bl true)) (h2 : EvM K tb X M G R) : EvM K (tAndV te tb) X M G R := ⟨fun {H0 F0 F H σ} E Q q qx => h1.run E _ fun v F1 H1 E1 f1 r1 => by
  cases r1
  exact ⟨true, rfl, h2.run E1 Q (fun d M' k v F' H' E' f r => q d M' k v F' H' E' (f1.trans f) r) fun C M' k F' H' E' f => qx C M' k F' H' E' (f1.trans f)⟩⟩
/-- a test that changes the store -/
structure TtM (K : PySem.W.Frag) (tt : TT) (M : Sto) (G : List Sl) (R : Bool → Sto → Prop) : Prop where
  run : ∀ {H0 F0 F H : Hp} {σ : L2.St}, EnM K H0 F0 F M H σ G → ∀ Q : Bool → Hp → Prop, (∀ b M', R b M' → ∀ F' H', EnM K H0 F0 F' M' H' σ G → Ex F F' → Q b H') → tt σ H Q
theorem tm_test {R2 : Bool → Sto → Prop} (h : EvM K te X M G R1) (hx : ∀ C M', ¬ R1 (.exc C) M') (hp : ∀ d M', R1 (.ok d) M' → ∃ b, d = .bl b ∧ R2 b M') : TtM K (tTest te) M G R2 := ⟨fun {H0 F0 F H σ} E Q q => h.run E _ (fun d M' k v F1 H1 E1 f1 r1 => by
  obtain ⟨b, rfl, k2⟩ := hp d M' k
  cases r1
  exact ⟨b, rfl, q b M' k2 F1 H1 E1 f1⟩) fun C M' k => absurd k (hx C M')⟩
theorem tm_B {R2 : Bool → Sto → Prop} (h : EvM K te X M G R1) (hx : ∀ C M', ¬ R1 (.exc C) M') (hp : ∀ d M', R1 (.ok d) M' → ∃ b, d = .bl b ∧ R2 b M') : TtM K (tB te) M G R2 := ⟨fun {H0 F0 F H σ} E Q q => h.run E _ (fun d M' k v F1 H1 E1 f1 r1 => by
  obtain ⟨b, rfl, k2⟩ := hp d M' k
  cases r1
  exact ⟨b, rfl, q b M' k2 F1 H1 E1 f1⟩) fun C M' k => absurd k (hx C M')⟩
theorem tm_not {R2 R3 : Bool → Sto → Prop} (h : TtM K t M G R2) (hp : ∀ b M', R2 b M' → R3 (!b) M') : TtM K (tNot t) M G R3 := ⟨fun {H0 F0 F H σ} E Q q => h.run E _ fun b M' k F1 H1 E1 f1 => q (!b) M' (hp b M' k) F1 H1 E1 f1⟩
theorem tm_of (h : TtR K t M G true) {R2 : Bool → Sto → Prop} (hp : R2 true M) : TtM K t M G R2 := ⟨fun {H0 F0 F H σ} E Q q => h.run E Q fun F1 H1 E1 f1 => q true M hp F1 H1 E1 f1⟩
theorem tm_ofF (h : TtR K t M G false) {R2 : Bool → Sto → Prop} (hp : R2 false M) : TtM K t M G R2 := ⟨fun {H0 F0 F H σ} E Q q => h.run E Q fun F1 H1 E1 f1 => q false M hp F1 H1 E1 f1⟩
/-- both are false -/
theorem tm_orF {R2 R3 : Bool → Sto → Prop} (h1 : TtM K t M G R2) (hb : ∀ b M', R2 b M' → b = false ∧ TtM K u M' G R3) : TtM K (tOr t u) M G R3 := ⟨fun {H0 F0 F H σ} E Q q => h1.run E _ fun b M' k F1 H1 E1 f1 => by
  obtain ⟨rfl, k2⟩ := hb b M' k
  exact k2.run E1 _ fun b' M'' k3 F2 H2 E2 f2 => q b' M'' k3 F2 H2 E2 (f1.trans f2)⟩
theorem m_ifM {R2 : Bool → Sto → Prop} (h : TtM K t M G R2) (h1 : ∀ M', R2 true M' → StM K tu M' G P) (h2 : ∀ M', R2 false M' → StM K tw M' G P) : StM K (tIfS t tu tw) M G P := ⟨fun {H0 F0 F H σ E} En p => h.run En _ fun b M' k F1 H1 E1 f1 => by
  cases b with
  | true =>
    show tu E σ H1
    exact (h1 M' k).run E1 fun o M' q => (p o M' q).weak f1
  | false =>
    show tw E σ H1
    exact (h2 M' k).run E1 fun o M' q => (p o M' q).weak f1⟩
theorem m_passM {R2 : Bool → Sto → Prop} (h : TtM K t M G R2) (hf : ∀ b M', R2 b M' → b = false) (h2 : ∀ M', R2 false M' → StM K tw M' G P) : StM K (tSeq (tIfS t tu tNext) tw) M G P :=
  m_seq (P1 := fun o M' => o = .nx G ∧ R2 false M') (m_ifM h (fun M' k => absurd (hf _ _ k) (by decide)) fun M' k => m_next ⟨rfl, k⟩) (fun G1 M1 k => by
    obtain ⟨k1, k2⟩ := k
    cases k1
    exact h2 M1 k2) fun o M1 k hn => absurd k.1 (hn _)

/-! try -/
theorem EnM.setN {H0 F0 F H : Hp} {σ : L2.St} (E : EnM K H0 F0 F M H σ G) (i : Nat) : EnM K H0 F0 F M H (σ.set i none) (G.set i .no) := ⟨E.en.setN i, E.st, E.h0, fun j w p h1 h2 => by
  by_cases q : i = j
  · subst q
    by_cases hl : i < G.length
    · rw [List.getElem?_set_self hl] at h1
      cases h1
    · rw [List.getElem?_eq_none (by rw [List.length_set]; omega)] at h1
      cases h1
  · rw [List.getElem?_set_ne q] at h1 h2
    exact E.ow j w p h1 h2⟩
/-- what is tried: it may raise to whatever is around -/
structure EvE (K : PySem.W.Frag) (te : (L2.St → XK) → TE) (M : Sto) (G : List Sl) (R : Res → Sto → Prop) : Prop where
  run : ∀ {H0 F0 F H : Hp} {σ : L2.St}, EnM K H0 F0 F M H σ G → ∀ (E : L2.St → XK) (Q : VK), (∀ d M', R (.ok d) M' → ∀ v F' H', EnM K H0 F0 F' M' H' σ G → Ex F F' → Rp K F' v d → Q v H') →
    (∀ C M', R (.exc C) M' → ∀ F' H', EnM K H0 F0 F' M' H' σ G → Ex F F' → E σ (.ref C) none H') → te E σ H Q
theorem m_try {te : (L2.St → XK) → TE} {cc : Value} {i m : Nat} (him : i ≠ m) (hi : i < G.length) (h : EvE K te M G R) (hp : ∀ d M', R (.ok d) M' → P (.nx G) M') (hx : ∀ C M', R (.exc C) M' → PySem.W.exmOne K (.ref C) cc = some true ∧ P (.nx ((G.set m (.dat (.exc C))).set i .no)) M') : StM K (tTry K cc i m te) M G P := ⟨fun {H0 F0 F H σ E} En p =>
  h.run En _ _ (fun d M' k v F1 H1 E1 f1 r1 => p _ _ (hp d M' k) σ F1 H1 E1 f1) fun C M' k F1 H1 E1 f1 => by
    obtain ⟨hc, k2⟩ := hx C M' k
    refine ⟨true, hc, fun _ a ha => ?_, fun q => nomatch q⟩
    have hl : i < σ.length := by
      rw [E1.en.len]
      exact hi
    refine ⟨.ref a, List.getElem?_set_self hl, ?_⟩
    have hF : F1 a = none := ex_none E1.en.ef ha
    have ef : Ex F1 (upd F1 a (ExK (.ref C) none a)) := Ex.new hF
    have E2 := E1.grow ef (Ex.new ha) (ex_upd_both E1.en.ef) (nw_upd ha (Nw.refl F1 H1))
    have E3 := (E2.setD (v := .ref a) (d := .exc C) (.exc upd_same) m).setN i
    have e : ((σ.set i (some (.ref a))).set m (some (.ref a))).set i none = (σ.set m (some (.ref a))).set i none := by
      rw [List.set_comm _ _ him, List.set_set]
    show E.nx (((σ.set i (some (.ref a))).set m (some (.ref a))).set i none) (upd H1 a (ExK (.ref C) none a))
    rw [e]
    exact p _ _ k2 _ _ _ E3 (f1.trans ef)⟩
theorem ee_call {Rel : RelM} {Pr : Res → Sto → Prop} (h : EvSR K ta M G ds) (hR : Rel ds M Pr) (hp : ∀ r M', Pr r M' → R r M') : EvE K (fun E => tCallS (spM K Rel) E ta) M G R := ⟨fun {H0 F0 F H σ} E X Q q qx =>
  h.run E _ fun vs F1 H1 E1 f1 r1 => by
    refine ⟨F1, ds, M, Pr, E1.en.ef, r1, E1.st, hR, fun r M' z => ?_⟩
    cases r with
    | ok d => exact fun v F2 H2 ro r2 => q d M' (hp _ _ z) v F2 H2 (E1.called ro) (f1.trans ro.ro.e1) r2
    | exc C => exact fun F2 H2 ro => qx C M' (hp _ _ z) F2 H2 (E1.called ro) (f1.trans ro.ro.e1)⟩
theorem ee_make {Rel : RelI} (h : EvSR K ta M G ds) (hR : ∀ x, M x = none → ∃ Pr : Res → Sto → Prop, Rel x ds M Pr ∧ (∀ d M', Pr (.ok d) M' → R (.ok (.ptr x)) M') ∧ ∀ C M', Pr (.exc C) M' → R (.exc C) M') : EvE K (fun E => tMakeS C (spMI K C Rel) E ta) M G R := ⟨fun {H0 F0 F H σ} E X Q q qx =>
  h.run E _ fun vs F1 H1 E1 f1 r1 => fun x dx hx hdx hne => by
    obtain ⟨Pr, k1, k2, k3⟩ := hR x (E1.free hx)
    refine ⟨F1, H1, x, dx, vs ++ [], ds, M, Pr, rfl, rfl, hx, hdx, hne, E1.en.ef, by rw [List.append_nil]; exact r1, E1.st, k1, fun r M' z => ?_⟩
    cases r with
    | ok d => exact fun F2 H2 ro => ⟨rfl, q _ M' (k2 d M' z) (.ref x) F2 H2 (E1.called ro) (f1.trans ro.ro.e1) (.ptr x)⟩
    | exc C => exact fun F2 H2 ro => qx C M' (k3 C M' z) F2 H2 (E1.called ro) (f1.trans ro.ro.e1)⟩

/-! loops -/
theorem m_for {wi : TI} {items : List D} (hi : ItD K wi G items) (C : Nat → List Sl) (J : Nat → Sto → Prop) (h0 : C 0 = G) (hJ : J 0 M) (T : Nat → List Sl) (ht : ∀ i d, items[i]? = some d → TgM K g (C i) d (T i))
    (hb : ∀ i M', i < items.length → J i M' → StM K tu M' (T i) fun o M'' => (∃ C', (o = .nx C' ∨ o = .ct C') ∧ Wk C' (C (i + 1)) ∧ J (i + 1) M'') ∨ (∃ C', o = .bk C' ∧ P (.nx C') M'') ∨ ((∃ d, o = .rt d) ∨ ∃ C X, o = .ex C X) ∧ P o M'') (hd : ∀ M', J items.length M' → P (.nx (C items.length)) M') : StM K (tFor wi g tu) M G P := by
  refine ⟨?_⟩
  intro H0 F0 F H σ E En p
  refine hi En.en _ fun Jt F1 H1 E1 f1 g1 n1 wk => ?_
  obtain ⟨Gp, Y, w, hg, hy⟩ := wk.ex
  have En1 := En.withG E1 f1 g1 n1
  refine for_it w (fun i σ H => ∃ F' M', EnM K H0 F0 F' M' H σ (C i) ∧ Ex F1 F' ∧ J i M') ⟨F1, M, by rw [h0]; exact En1, Ex.refl _, hJ⟩ (fun i σ H _ ⟨F', M', E', e', _⟩ => hg H (e'.trans E'.en.ef)) ?_ ?_
  · rintro i x σ2 H2 H3 hlt ⟨F', M', E', e', hj⟩ y
    obtain ⟨F2, d, k1, k2, k3, k4, hd2, r2⟩ := hy i H2 x H3 F' e' E'.en.ef y
    have E3 := E'.grow k1 k2 k3 k4
    refine (ht i d hd2).run E3 r2 _ fun σ4 E4 => ?_
    refine (hb i M' hlt hj).run E4 fun o M'' k => ?_
    rcases k with ⟨C', ho, hw, hj'⟩ | ⟨C', rfl, k2'⟩ | ⟨ho, k2'⟩
    · have next : ∀ (σ : L2.St) (F'' H'' : Hp), EnM K H0 F0 F'' M'' H'' σ C' → Ex F2 F'' → ∃ F' M', EnM K H0 F0 F' M' H'' σ (C (i + 1)) ∧ Ex F1 F' ∧ J (i + 1) M' := fun σ F'' H'' E'' f'' => ⟨F'', M'', E''.weak hw, (e'.trans k1).trans f'', hj'⟩
      rcases ho with rfl | rfl
      · exact fun σ F'' H'' E'' f'' => next σ F'' H'' E'' f''
      · exact fun σ F'' H'' E'' f'' => next σ F'' H'' E'' f''
    · exact fun σ F'' H'' E'' f'' => p _ _ k2' σ F'' H'' E'' ((((f1.trans e').trans k1).trans f''))
    · have := p _ _ k2'
      rcases ho with ⟨d', rfl⟩ | ⟨C', X', rfl⟩
      · exact this
      · exact this
  · rintro σ2 H2 ⟨F', M', E', e', hj⟩
    exact p _ _ (hd M' hj) σ2 F' H2 E' (f1.trans e')

/-! a few more words -/
theorem n_sum {ns : List Int} : OpN K (rSum K) [.lst (ns.map D.int)] (.int ns.sum) := op1_v fun {F H vs} e r => by
  obtain ⟨v, rfl, r1⟩ := rpa1 r
  cases r1 with
  | lst h2 s1 => exact ⟨.int ns.sum, .int _, fun Q q => ⟨_, ns, rfl, sq_of (e _ _ (by rw [h2, s1.ints])), q⟩⟩
abbrev tTru2 (K : PySem.W.Frag) (ta : TE) : TT := fun σ H Q => ta σ H fun x H' => ∃ k, TruV K x H' k ∧ Q k H'
theorem t_tru (h : EvD K te G (.lst l)) : EvTt K (tTru2 K te) G (!l.isEmpty) := .mk fun {H0 F0 F H σ} E Q q => h E _ fun v F1 H1 E1 f1 g1 n1 r1 => by
  cases r1 with
  | lst ha rs =>
    rename_i xs
    have e : xs.isEmpty = l.isEmpty := by cases rs <;> rfl
    exact ⟨_, .inl ⟨xs, sq_of (E1.ef _ _ ha), rfl⟩, by rw [e]; exact q F1 H1 E1 f1 g1 n1⟩

/-! {k: [] for k in x.f}, a dict of new lists -/
def updL (M : Sto) (la : List Addr) (n : Nd) : Sto := fun b => if b ∈ la then some n else M b
theorem updL_nil {M : Sto} {n : Nd} : updL M [] n = M := by
  funext b
  exact if_neg (fun h => nomatch h)
theorem updL_in {M : Sto} {la : List Addr} {b : Addr} {n : Nd} (h : b ∈ la) : updL M la n b = some n := if_pos h
theorem updL_out {M : Sto} {la : List Addr} {b : Addr} {n : Nd} (h : b ∉ la) : updL M la n b = M b := if_neg h
theorem updL_snoc {M : Sto} {la : List Addr} {a : Addr} {n : Nd} : updL M (la ++ [a]) n = updM (updL M la n) a n := by
  funext b
  by_cases h : b = a
  · subst h
    rw [updL_in (List.mem_append_right _ (List.mem_singleton.mpr rfl)), updM_same]
  · rw [updM_ne h]
    by_cases hb : b ∈ la
    · rw [updL_in hb, updL_in (List.mem_append_left _ hb)]
    · rw [updL_out hb, updL_out (fun q => (List.mem_append.mp q).elim hb fun z => h (List.mem_singleton.mp z))]
theorem En.addF {H0 F0 F H : Hp} {σ : L2.St} (E : Cy.En K H0 F0 F H σ G) {z : Addr} {o : HO} (hF : F z = none) (hH : H z = some o) (h0 : H0 z = none) (hw : ∀ (i : Nat) (w : Ow), G[i]? = some (.own w) → σ[i]? ≠ some (some (.ref z))) : Cy.En K H0 F0 (upd F z o) H σ G where
  dat := fun i d h => by
    obtain ⟨v, a, b⟩ := E.dat i d h
    exact ⟨v, a, b.mono (Ex.new hF)⟩
  own := fun i w h => by
    obtain ⟨p, u, a, b, c, d, r⟩ := E.own i w h
    have hne : p ≠ z := fun q => by
      subst q
      exact hw i w h a
    exact ⟨p, u, a, by rw [upd_ne hne]; exact b, c, d, r.mono (Ex.new hF)⟩
  dis := E.dis
  e0 := E.e0
  ef := fun a u q => by
    by_cases ha : a = z
    · subst ha
      rw [upd_same] at q
      cases q
      exact hH
    · rw [upd_ne ha] at q
      exact E.ef a u q
  e1 := E.e1.trans (Ex.new hF)
  nf := fun a u q => by
    by_cases ha : a = z
    · subst ha
      exact .inr h0
    · rw [upd_ne ha] at q
      exact E.nf a u q
  len := E.len
theorem EnM.addF {H0 F0 F H : Hp} {σ : L2.St} (E : EnM K H0 F0 F M H σ G) {z : Addr} {o : HO} (hF : F z = none) (hH : H z = some o) (h0 : H0 z = none) (hM : M z = none) (hw : ∀ (i : Nat) (w : Ow), G[i]? = some (.own w) → σ[i]? ≠ some (some (.ref z))) : EnM K H0 F0 (upd F z o) M H σ G :=
  ⟨E.en.addF hF hH h0 hw, fun a n q => by
    obtain ⟨k1, u, k2, k3⟩ := E.st a n q
    have hne : a ≠ z := fun y => by
      subst y
      rw [hM] at q
      cases q
    exact ⟨by rw [upd_ne hne]; exact k1, u, k2, k3.mono (Ex.new hF)⟩, E.h0, E.ow⟩
theorem EnM.aside {H0 F0 F H : Hp} {σ : L2.St} (E : EnM K H0 F0 F M H σ G) {z : Addr} {o : HO} (hF : F z = none) (h0 : H0 z = none) (hM : M z = none) (hw : ∀ (i : Nat) (w : Ow), G[i]? = some (.own w) → σ[i]? ≠ some (some (.ref z))) : EnM K H0 F0 F M (upd H z o) σ G :=
  ⟨E.en.aside hF h0 hw, fun a n q => by
    obtain ⟨k1, u, k2, k3⟩ := E.st a n q
    have hne : a ≠ z := fun y => by
      subst y
      rw [hM] at q
      cases q
    exact ⟨k1, u, by rw [upd_ne hne]; exact k2, k3⟩, E.h0, E.ow⟩
theorem upd_swap {H : Hp} {a b : Addr} {o u : HO} (h : a ≠ b) : upd (upd H a o) b u = upd (upd H b u) a o := by
  funext c
  by_cases ha : c = a
  · subst ha
    rw [upd_ne h, upd_same, upd_same]
  · by_cases hb : c = b
    · subst hb
      rw [upd_same, upd_ne ha, upd_same]
    · rw [upd_ne hb, upd_ne ha, upd_ne ha, upd_ne hb]
theorem upd_id {H : Hp} {a : Addr} {o : HO} (h : H a = some o) : upd H a o = H := by
  funext c
  by_cases ha : c = a
  · subst ha
    rw [upd_same, h]
  · rw [upd_ne ha]
theorem upd_back {H : Hp} {a : Addr} {o u : HO} (h : H a = some o) : upd (upd H a u) a o = H := by
  funext c
  by_cases ha : c = a
  · subst ha
    rw [upd_same, h]
  · rw [upd_ne ha, upd_ne ha]
theorem zip_snoc {α β : Type} {k : α} {x : β} : ∀ {ks : List α} {xs : List β} {n : Nat}, ks[n]? = some k → xs.length = n → ks.zip (xs ++ [x]) = ks.zip xs ++ [(k, x)]
  | [], xs, n, h, _ => by simp at h
  | a :: ks, [], n, h, hl => by
    subst hl
    simp at h
    subst h
    show (a, x) :: ks.zip [] = [(a, x)]
    rw [List.zip_nil_right]
  | a :: ks, b :: xs, n, h, hl => by
    subst hl
    have h' : ks[xs.length]? = some k := by simpa using h
    show (a, b) :: ks.zip (xs ++ [x]) = (a, b) :: (ks.zip xs ++ [(k, x)])
    rw [zip_snoc h' rfl]
/-- {k: [] for k in x.f}: x a thing in the store, x.f a dict that stays -/
theorem e_dcNew {i j : Nat} {x : Addr} {f : Str} {fs : List (Str × D)} {es : List (Key × D)} (hij : i ≠ j) (hjG : j < G.length) (hx : G[i]? = some (.dat (.ptr x))) (hm : M x = some (.ins C fs)) (hc : Cls K C) (hn : NoAttr K C f) (hf : fs.lookup f = some (.dic es)) (hu : (es.map fun p => p.1).Nodup) (hz : es.length ≤ 1000)
    (hp : ∀ la : List Addr, la.length = es.length → la.Nodup → (∀ a ∈ la, M a = none) → R (.ok (.dic ((es.map fun p => p.1).zip (la.map D.ptr)))) (updL M la (.lst []))) :
    EvM K (tLockE (tDc (iKeys (tFld K (tVar i) f)) (gName j) tYes (tVar j) (tLst tNil) [j])) X M G R := ⟨fun {H0 F0 F H σ} E Q q qx => by
  obtain ⟨v, hv, rv⟩ := E.en.dat i _ hx
  cases rv
  obtain ⟨_, o, hH, hb⟩ := E.st x _ hm
  cases hb with
  | ins h4 h5 =>
    rename_i dx gs
    obtain ⟨w, hw1, hw2⟩ := get_rp h4 h5 hf
    cases hw2 with
    | dic hd hk hr =>
      rename_i d kvs
      have hHd := E.en.ef _ _ hd
      have hxd : x ≠ d := fun z => by
        subst z
        rw [hH] at hHd
        cases hHd
      have hlen : kvs.length = es.length := by
        have := congrArg List.length hk
        rwa [List.length_map, List.length_map] at this
      refine ⟨d, _, hHd, trivial, fun od => ?_⟩
      unfold tDc iKeys
      refine ⟨.ref x, ?_, x, C, dx, gs, .ref d, rfl, by rw [upd_ne hxd]; exact hH, hc, hn, hw1, d, od, rfl, .inl ⟨kvs, upd_same, fun z hz1 => ?_⟩⟩
      · first | exact hv | exact ⟨_, hv⟩
      have hdz : d ≠ z := fun y => by
        subst y
        rw [upd_same] at hz1
        cases hz1
      have hHz : H z = none := by
        rw [upd_ne hdz.symm] at hz1
        exact hz1
      have hFz := ex_none E.en.ef hHz
      have h0z := ex_none E.en.e0 hHz
      refine ⟨fun n m H' => m + n = kvs.length ∧ H' d = some (.frz od (.dK kvs)) ∧ (∀ a, H' a = none → H a = none) ∧ ∃ la : List Addr, ∃ acc : List (Key × V), la.length = n ∧ la.Nodup ∧ (∀ a ∈ la, H a = none ∧ a ≠ z) ∧ acc = ((kvs.map fun p => p.1).zip (la.map V.ref)) ∧ H' z = some (.dK acc) ∧ EnM K H0 F0 F (updL M la (.lst [])) (upd H' d (.dK kvs)) σ G, ⟨kvs.length, rfl, by rw [upd_ne hdz]; exact upd_same, fun a h => ?_, [], [], rfl, List.nodup_nil, fun a h => (nomatch h), by rw [List.map_nil, List.zip_nil_right], upd_same, ?_⟩, ?_⟩
      · by_cases ha : a = z
        · rw [ha]
          exact hHz
        · rw [upd_ne ha] at h
          by_cases hb : a = d
          · rw [hb, upd_same] at h
            cases h
          · rw [upd_ne hb] at h
            exact h
      · rw [updL_nil, upd_swap (a := z) (b := d) hdz.symm, upd_upd, upd_id hHd]
        exact E.aside hFz h0z (E.free hHz) (E.freeO hHz)
      · rintro n m H2 ⟨hmn, hd2, hback, la, acc, hla, hnd, hfr, hacc, hz2, E2⟩
        rcases Nat.eq_or_lt_of_le (show n ≤ kvs.length by omega) with hlt | hlt
        · refine .inl ⟨⟨hd2, by omega⟩, hd2, ?_⟩
          have hMz : updL M la (.lst []) z = none := by
            rw [updL_out (fun h => (hfr z h).2 rfl)]
            exact E.free hHz
          have hzz : upd H2 d (.dK kvs) z = some (.dK acc) := by
            rw [upd_ne hdz.symm]
            exact hz2
          have E3 := E2.addF (o := .dK acc) hFz hzz h0z hMz (E.freeO hHz)
          have hl1 : (kvs.map fun p => p.1).length = (la.map V.ref).length := by rw [List.length_map, List.length_map]; omega
          have hl2 : (es.map fun p => p.1).length = (la.map D.ptr).length := by rw [List.length_map, List.length_map]; omega
          refine q _ _ (hp la (by omega) hnd fun a ha => E.free (hfr a ha).1) (.ref z) _ _ E3 (Ex.new hFz) (.dic upd_same ?_ ?_)
          · rw [hacc, List.map_fst_zip (by omega), List.map_fst_zip (by omega), hk]
          · rw [hacc, List.map_snd_zip (by omega), List.map_snd_zip (by omega)]
            have : ∀ l : List Addr, RpA K (upd F z (.dK acc)) (l.map V.ref) (l.map D.ptr) := fun l => by
              induction l with
              | nil => exact .nil
              | cons a l ih => exact .cons (.ptr a) ih
            rw [← hacc]
            exact this la
        · refine .inr ⟨⟨hd2, hlt⟩, fun H' => H' d = some (.frz od (.dK kvs)) ∧ (∀ a, H' a = none → H a = none) ∧ ∃ la : List Addr, ∃ acc : List (Key × V), la.length = n + 1 ∧ la.Nodup ∧ (∀ a ∈ la, H a = none ∧ a ≠ z) ∧ acc = ((kvs.map fun p => p.1).zip (la.map V.ref)) ∧ H' z = some (.dK acc) ∧ EnM K H0 F0 F (updL M la (.lst [])) (upd H' d (.dK kvs)) σ G, fun H' p' => ⟨m - 1, by omega, by omega, p'⟩, fun y H3 hy => ?_⟩
          obtain ⟨rfl, k, vv, hk1, rfl⟩ := hy
          refine ⟨by show ((L2.wipe σ [j]).set j (some (kV k))).set j none = L2.wipe σ [j]; show (((σ.set j none).set j (some (kV k))).set j none) = σ.set j none; rw [List.set_set, List.set_set], ?_⟩
          unfold tYes
          dsimp only
          rw [if_pos rfl]
          have hjl : j < σ.length := by
            rw [E.en.len]
            exact hjG
          refine ⟨kV k, List.getElem?_set_self (by rw [wipe_length]; exact hjl), ?_⟩
          refine ⟨sz_of (Nat.zero_le _), fun p hpn => ?_⟩
          have hpd : p ≠ d := fun y => by
            subst y
            rw [hd2] at hpn
            cases hpn
          have hpz : p ≠ z := fun y => by
            subst y
            rw [hz2] at hpn
            cases hpn
          have hlacc : acc.length = n := by
            rw [hacc, List.length_zip, List.length_map, List.length_map]
            omega
          have hHu : upd H3 d (.dK kvs) p = none := by
            rw [upd_ne hpd]
            exact hpn
          have hFp := ex_none E2.en.ef hHu
          have h0p := ex_none E2.en.e0 hHu
          have hMp : updL M la (.lst []) p = none := E2.free hHu
          have hpla : p ∉ la := fun y => by
            rw [updL_in y] at hMp
            cases hMp
          have hHp : H p = none := by
            exact hback p hpn
          have hnew : (acc.any fun kv => decide (kv.1 = k)) = false := by
            rw [← Bool.not_eq_true]
            intro hany
            obtain ⟨e1, he1, he2⟩ := List.any_eq_true.mp hany
            have he3 := of_decide_eq_true he2
            rw [hacc] at he1
            have hu' : (kvs.map fun p => p.1).Nodup := by
              rw [hk]
              exact hu
            obtain ⟨r, hr1, hr2⟩ := List.getElem_of_mem he1
            rw [List.getElem_zip] at hr2
            rw [List.length_zip, List.length_map, List.length_map] at hr1
            have hr3 : (kvs.map fun p => p.1)[r]'(by rw [List.length_map]; omega) = k := by
              rw [← he3, ← hr2]
            have hn3 : (kvs.map fun p => p.1)[n]'(by rw [List.length_map]; omega) = k := by
              rw [List.getElem_map]
              have := List.getElem?_eq_some_iff.mp hk1
              obtain ⟨h1, h2⟩ := this
              rw [h2]
            exact List.pairwise_iff_getElem.mp hu' r n (by rw [List.length_map]; omega) (by rw [List.length_map]; omega) (by omega) (hr3.trans hn3.symm)
          refine ⟨acc, k, rfl, by rw [upd_ne hpz.symm]; exact hz2, sz_lt (by omega), ?_, fun a h => ?_, la ++ [p], putK acc k (.ref p), by rw [List.length_append, hla]; rfl, ?_, ?_, ?_, upd_same, ?_⟩
          · rw [upd_ne hdz, upd_ne hpd.symm]
            exact hd2
          · by_cases ha : a = z
            · rw [ha]
              exact hHz
            · rw [upd_ne ha] at h
              by_cases hb : a = p
              · rw [hb]
                exact hHp
              · rw [upd_ne hb] at h
                exact hback a h
          · exact List.nodup_append.mpr ⟨hnd, List.nodup_cons.mpr ⟨fun h => (nomatch h), List.nodup_nil⟩, fun a ha b hb => by
              rw [List.mem_singleton] at hb
              subst hb
              exact fun y => hpla (y ▸ ha)⟩
          · intro a ha
            rcases List.mem_append.mp ha with y | y
            · exact hfr a y
            · rw [List.mem_singleton.mp y]
              exact ⟨hHp, hpz⟩
          · unfold putK
            rw [hnew, List.map_append, hacc]
            refine (zip_snoc ?_ (by rw [List.length_map, hla])).symm
            rw [List.getElem?_map, hk1]
            rfl
          · rw [updL_snoc, upd_swap (a := z) (b := d) hdz.symm, upd_swap (a := p) (b := d) hpd]
            have E3 := E2.grow (Ex.refl F) (Ex.new (o := .lst []) hHu) (E2.en.ef.trans (Ex.new hHu)) (Nw.refl F _)
            have E4 := E3.new (n := .lst []) upd_same hFp h0p (fun j w hj hs => E2.freeO hHu j w hj hs) (.lst .nil)
            refine E4.aside hFz h0z ?_ (fun j w hj hs => E.freeO hHz j w hj hs)
            rw [updM_ne hpz.symm, updL_out (fun h => (hfr z h).2 rfl)]
            exact E.free hHz⟩
end
end Cy

set_option Elab.async false
set_option linter.all false
set_option maxRecDepth 100000
set_option maxHeartbeats 4000000
namespace Cy
open PySem PySem.Spec PyProof.Rows L2 Evl
section
variable {K : PySem.W.Frag} {M M1 M2 : Sto} {G G' G1 : List Sl} {te td ty tv tb to tx : TE} {ta tr : TA} {t u : TT} {tu tw tz : TS} {d a b c : D} {ds l : List D} {X : XK} {P P1 : Out → Sto → Prop} {R R1 : Res → Sto → Prop} {o : Out} {g : TG} {C : Addr}
/-- a def that may raise, and else ends without a return -/
theorem body_XN {N : List Str} {R : List D → Res → Prop} {vs : List V} {H : Hp} {Q : VK} {E : XK} {t : XK → TS} (h : spX K R vs H Q E) (hn : ∀ ds d, R ds d → ds.length ≤ N.length)
    (hb : ∀ ds r (E : XK), R ds r → (r = .ok .non ∧ ∃ G, StD K (t E) (args N.length ds) (.nx G)) ∨ ∃ C, r = .exc C ∧ StD K (t E) (args N.length ds) (.ex C E)) : t E { nx := fun _ H' => Q .non H', rt := Q } (start N vs) H := by
  obtain ⟨F, ds, r, e, ra, hR, q⟩ := h
  rcases hb ds r E hR with ⟨rfl, G, hs⟩ | ⟨C, rfl, hs⟩
  · exact hs (start_en e ra (hn ds _ hR)) fun σ F' H' E' f' => q .non F' H' E'.ro .non
  · exact hs (start_en e ra (hn ds _ hR)) fun F' H' ro => q F' H' ro
theorem st_dropRs {te : (L2.St → XK) → TE} (h : RsD K te G C) : StD K (tDrop (te fun _ => X)) G (.ex C X) := .mk fun {H0 F0 F H σ E} En p => h.run En (fun _ => X) _ fun F1 H1 E1 f1 g1 n1 => p F1 H1 E1.ro
theorem st_asgRs {te : (L2.St → XK) → TE} (h : RsD K te G C) : StD K (tAsg (te fun _ => X) g) G (.ex C X) := .mk fun {H0 F0 F H σ E} En p => h.run En (fun _ => X) _ fun F1 H1 E1 f1 g1 n1 => p F1 H1 E1.ro
theorem st_retRs {te : (L2.St → XK) → TE} (h : RsD K te G C) : StD K (tRet (te fun _ => X)) G (.ex C X) := .mk fun {H0 F0 F H σ E} En p => h.run En (fun _ => X) _ fun F1 H1 E1 f1 g1 n1 => p F1 H1 E1.ro
theorem rs_dget {te : (L2.St → XK) → TE} (h : EvD K td G d) (h2 : RsD K te G C) : RsD K (fun E => tDGet td (te E)) G C := .mk fun {H0 F0 F H σ} En E Q q => h En _ fun v F1 H1 E1 f1 g1 n1 r1 => h2.run E1 E _ fun F2 H2 E2 f2 g2 n2 => q F2 H2 E2 (f1.trans f2) (g1.trans g2) (n1.trans n2 g1)
/-- .. over the store -/
theorem m_dropX {te : (L2.St → XK) → TE} (h : RsD K te G' C) (w : VwG M G G') (hp : P (.ex C X) M) : StM K (tDrop (te fun _ => X)) M G P := m_dropM (e_mrs (R := fun r M' => r = .exc C ∧ M' = M) h w ⟨rfl, rfl⟩) (fun d M' k => nomatch k.1) fun C' M' k => by
  obtain ⟨k1, rfl⟩ := k
  cases k1
  exact hp
theorem m_retX {te : (L2.St → XK) → TE} (h : RsD K te G' C) (w : VwG M G G') (hp : P (.ex C X) M) : StM K (tRet (te fun _ => X)) M G P := m_retM (e_mrs (R := fun r M' => r = .exc C ∧ M' = M) h w ⟨rfl, rfl⟩) (fun d M' k => nomatch k.1) fun C' M' k => by
  obtain ⟨k1, rfl⟩ := k
  cases k1
  exact hp
theorem hu1 {k : Nat} {A : Around} (hr : Room k A) : A.units + 1 < cLine := by
  have := hr.units
  omega
/-- a bigger store -/
def Ext (M M' : Sto) : Prop := ∀ a n, M a = some n → M' a = some n
theorem Ext.refl (M : Sto) : Ext M M := fun _ _ h => h
theorem Ext.trans (h : Ext M M1) (h2 : Ext M1 M2) : Ext M M2 := fun a n q => h2 a n (h a n q)
theorem ext_new {a : Addr} {n : Nd} (h : M a = none) : Ext M (updM M a n) := fun b m q => by
  have hne : b ≠ a := fun z => by
    subst z
    rw [h] at q
    cases q
  rw [updM_ne hne]
  exact q
theorem ext_newL {la : List Addr} {n : Nd} (h : ∀ a ∈ la, M a = none) : Ext M (updL M la n) := fun b m q => by
  have hne : b ∉ la := fun z => by
    rw [h b z] at q
    cases q
  rw [updL_out hne]
  exact q
theorem law_endM {Rel : RelM} {H : Hp} {a : Addr} {ns : List Int} {Pr : Res → Sto → Prop} {E : XK} (hS : SqL K H a (ns.map V.int)) (hR : Rel [.scr ns] (fun _ => none) Pr) (hp : ∀ r M', Pr r M' → r = .ok (.bl true)) : spM K Rel [.ref a] H (fun v _ => v = .bl true) E := by
  refine ⟨H, [.scr ns], fun _ => none, Pr, Ex.refl H, .cons (.scr hS) .nil, fun b n h => (nomatch h), hR, fun r M' k => ?_⟩
  have e := hp r M' k
  subst e
  exact fun v F' H' ro r1 => rp_bl r1
end
end Cy

set_option Elab.async false
set_option linter.all false
set_option maxRecDepth 100000
set_option maxHeartbeats 4000000
namespace Cy
open PySem PySem.Spec PyProof.Rows L2 Evl
/-! a dict that is locked while it is walked: what stands beside it -/
mutual
/-- no dict, no thing, no script in it -/
def plnD : D → Bool
  | .non => true
  | .bl _ => true
  | .int _ => true
  | .str _ => true
  | .ptr _ => true
  | .lst xs => plnA xs
  | .tup xs => plnA xs
  | _ => false
def plnA : List D → Bool
  | [] => true
  | x :: xs => plnD x && plnA xs
end
section
variable {K : PySem.W.Frag} {F : Hp} {a : Addr} {o : HO}
mutual
theorem Rp.beside (hN : ∀ xs, F a ≠ some (.lst xs) ∧ F a ≠ some (.tup xs)) : ∀ {v : V} {d : D}, Rp K F v d → plnD d = true → Rp K (upd F a o) v d
  | _, _, .non, _ => .non
  | _, _, .bl b, _ => .bl b
  | _, _, .int i, _ => .int i
  | _, _, .str x, _ => .str x
  | _, _, .ptr a, _ => .ptr a
  | _, .tup ds, .tup h r, q => .tup (by
      rw [upd_ne (fun z => (hN _).2 (by rw [← z]; exact h))]
      exact h) (RpA.beside hN r (by unfold plnD at q; exact q))
  | _, .lst ds, .lst h r, q => .lst (by
      rw [upd_ne (fun z => (hN _).1 (by rw [← z]; exact h))]
      exact h) (RpA.beside hN r (by unfold plnD at q; exact q))
  | _, .dic _, .dic _ _ _, q => by unfold plnD at q; cases q
  | _, .obj _ _, .obj _ _ _, q => by unfold plnD at q; cases q
  | _, .exc _, .exc _, q => by unfold plnD at q; cases q
  | _, .scr _, .scr _, q => by unfold plnD at q; cases q
theorem RpA.beside (hN : ∀ xs, F a ≠ some (.lst xs) ∧ F a ≠ some (.tup xs)) : ∀ {vs : List V} {ds : List D}, RpA K F vs ds → plnA ds = true → RpA K (upd F a o) vs ds
  | _, _, .nil, _ => .nil
  | _, d :: ds, .cons r t, q => by
    unfold plnA at q
    rw [Bool.and_eq_true] at q
    exact .cons (Rp.beside hN r q.1) (RpA.beside hN t q.2)
end
end
theorem plnA_mem : ∀ {l : List D}, plnA l = true → ∀ d ∈ l, plnD d = true
  | x :: xs, h, d, hd => by
    unfold plnA at h
    rw [Bool.and_eq_true] at h
    rcases List.mem_cons.mp hd with z | z
    · rw [z]
      exact h.1
    · exact plnA_mem h.2 d z
theorem plnA_of : ∀ {l : List D}, (∀ d ∈ l, plnD d = true) → plnA l = true
  | [], _ => by
    unfold plnA
    rfl
  | x :: xs, h => by
    unfold plnA
    rw [h x List.mem_cons_self, plnA_of fun d hd => h d (List.mem_cons_of_mem _ hd)]
    rfl
/-- what is still looked at in the walk -/
inductive Lk : List Sl → List Sl → Prop
  | nil : Lk [] []
  | keep {d : D} {G G' : List Sl} : plnD d = true → Lk G G' → Lk (.dat d :: G) (.dat d :: G')
  | drop {s : Sl} {G G' : List Sl} : Lk G G' → Lk (s :: G) (.no :: G')
theorem Lk.length : ∀ {G G' : List Sl}, Lk G G' → G.length = G'.length
  | _, _, .nil => rfl
  | _, _, .keep _ h => congrArg (· + 1) h.length
  | _, _, .drop h => congrArg (· + 1) h.length
theorem Lk.get : ∀ {G G' : List Sl} {i : Nat} {s : Sl}, Lk G G' → G'[i]? = some s → s = .no ∨ ∃ d, s = .dat d ∧ plnD d = true ∧ G[i]? = some (.dat d)
  | _, _, 0, s, .keep (d := d) p _, h => by
    have : Sl.dat d = s := by simpa using h
    exact .inr ⟨d, this.symm, p, rfl⟩
  | _, _, 0, s, .drop _, h => by
    have : Sl.no = s := by simpa using h
    exact .inl this.symm
  | _, _, i + 1, s, .keep _ l, h => by
    simpa only [List.getElem?_cons_succ] using l.get (by simpa only [List.getElem?_cons_succ] using h)
  | _, _, i + 1, s, .drop l, h => by
    simpa only [List.getElem?_cons_succ] using l.get (by simpa only [List.getElem?_cons_succ] using h)
section
variable {K : PySem.W.Frag} {H0 F0 F H : Hp} {σ : L2.St} {G G' : List Sl}
/-- while it is locked -/
theorem En.locked (E : Cy.En K H0 F0 F H σ G) (w : Lk G G') {a : Addr} {o z : HO} (ha : F a = some o) (hN : ∀ xs, o ≠ .lst xs ∧ o ≠ .tup xs) : Cy.En K (upd H a z) (upd F a z) (upd F a z) (upd H a z) σ G' where
  dat := fun i d h => by
    rcases w.get h with q | ⟨d', q1, q2, q3⟩
    · cases q
    · cases q1
      obtain ⟨v, k1, k2⟩ := E.dat i d q3
      exact ⟨v, k1, k2.beside (fun xs => ⟨fun q => (hN xs).1 (by rw [ha] at q; cases q; rfl), fun q => (hN xs).2 (by rw [ha] at q; cases q; rfl)⟩) q2⟩
  own := fun i u h => by
    rcases w.get h with q | ⟨d', q1, _⟩
    · cases q
    · cases q1
  dis := fun i j li lj p _ h => by
    rcases w.get h with q | ⟨d', q1, _⟩
    · cases q
    · cases q1
  e0 := Ex.refl _
  ef := fun b u h => by
    by_cases q : b = a
    · subst q
      rw [upd_same] at h ⊢
      exact h
    · rw [upd_ne q] at h ⊢
      exact E.ef _ _ h
  e1 := Ex.refl _
  nf := fun b u h => .inl h
  len := by rw [E.len, w.length]
/-- behind it -/
theorem En.opened (E : Cy.En K H0 F0 F H σ G) {a : Addr} {o z : HO} {F2 H2 : Hp} (ha : F a = some o) (E2 : Cy.En K (upd H a z) (upd F a z) F2 H2 σ G') (f2 : Ex (upd F a z) F2) (g2 : Ex (upd H a z) H2) (n2 : Nw (upd F a z) F2 (upd H a z)) :
    Cy.En K H0 F0 (upd F2 a o) (upd H2 a o) σ G ∧ Ex F (upd F2 a o) ∧ Ex H (upd H2 a o) ∧ Nw F (upd F2 a o) H := by
  have e1 : Ex F (upd F2 a o) := fun b u h => by
    by_cases q : b = a
    · subst q
      rw [ha] at h
      rw [upd_same]
      exact h
    · rw [upd_ne q]
      exact f2 b u (by rw [upd_ne q]; exact h)
  have e2 : Ex H (upd H2 a o) := fun b u h => by
    by_cases q : b = a
    · subst q
      rw [E.ef _ _ ha] at h
      rw [upd_same]
      exact h
    · rw [upd_ne q]
      exact g2 b u (by rw [upd_ne q]; exact h)
  have e3 : Ex (upd F2 a o) (upd H2 a o) := fun b u h => by
    by_cases q : b = a
    · subst q
      rw [upd_same] at h ⊢
      exact h
    · rw [upd_ne q] at h ⊢
      exact E2.ef _ _ h
  have n : Nw F (upd F2 a o) H := fun b u h => by
    by_cases q : b = a
    · subst q
      rw [upd_same] at h
      exact .inl (by rw [ha]; exact h)
    · rw [upd_ne q] at h
      rcases n2 b u h with y | y
      · exact .inl (by rw [upd_ne q] at y; exact y)
      · exact .inr (by rw [upd_ne q] at y; exact y)
  exact ⟨E.grow e1 e2 e3 n, e1, e2, n⟩
end
section
variable {K : PySem.W.Frag} {G : List Sl} {g : TG} {tt : TT} {te : TE}
theorem lc_at {J : It} {H0 F0 F1 H1 : Hp} {σ : L2.St} {items : List D} {vs : List Nat} (f : Nat → Bool) (v : Nat → D) (T : Nat → List Sl) (hk : Keeps g vs) (E1 : Cy.En K H0 F0 F1 H1 σ G) (wk : WkD K F1 J items) (hz : items.length ≤ 40000)
    (ht : ∀ i d, items[i]? = some d → TgD K g (wipeG G vs) d (T i)) (hf : ∀ i, i < items.length → EvTt K tt (T i) (f i)) (hv : ∀ i, i < items.length → f i = true → EvD K te (T i) (v i)) :
    ∀ Q : VK, (∀ p xs F' H', Cy.En K H0 F0 F' H' σ G → Ex F1 F' → Ex H1 H' → Nw F1 F' H1 → H1 p = none → F' p = none → H' p = some (.lst xs) → RpA K F' xs (lcD items.length f v) → Q (.ref p) H') → tLc (fun σ H R => R J H) g tt te vs σ H1 Q := by
  intro Q q
  obtain ⟨Gp, Y, w, hg, hy⟩ := wk.ex
  intro Dl hD
  refine lc_it w (fun i H' => ∃ F' acc, Cy.En K H0 F0 F' H' σ G ∧ Ex F1 F' ∧ Ex H1 H' ∧ Nw F1 F' H1 ∧ F' Dl = none ∧ H' Dl = some (.lst acc) ∧ RpA K F' acc (lcD i f v)) ?_ (fun i H' _ ⟨F', acc, E', e', _⟩ => hg H' (e'.trans E'.ef)) ?_ ?_
  · exact ⟨F1, [], E1.grow (Ex.refl _) (Ex.new hD) (E1.ef.trans (Ex.new hD)) (Nw.refl _ _), Ex.refl _, Ex.new hD, Nw.refl _ _, ex_none E1.ef hD, upd_same, .nil⟩
  · rintro i x H2 H3 hlt ⟨F', acc, E', e', gg, nn, hF, hH, hr⟩ y
    obtain ⟨F2, d, k1, k2, k3, k4, hd2, r2⟩ := hy i H2 x H3 F' e' E'.ef y
    have E3 : Cy.En K H0 F0 F2 H3 σ G := E'.grow k1 k2 k3 k4
    refine hk x σ H3 _ ?_
    refine ht i d hd2 (E3.wipe vs) r2 _ fun σ4 E4 => ?_
    have nD : Dl ≠ Dl ∨ True := .inr trivial
    have hH3 : H3 Dl = some (.lst acc) := k2 _ _ hH
    have hF2 : F2 Dl = none := by
      cases z : F2 Dl with
      | none => rfl
      | some o =>
        rcases k4 Dl o z with y | y
        · rw [hF] at y
          cases y
        · rw [hH] at y
          cases y
    have n2 : Nw F1 F2 H1 := nn.trans k4 gg
    refine hf i hlt E4 _ fun F5 H5 E5 f5 g5 n5 => ?_
    have hF5 : F5 Dl = none := by
      cases z : F5 Dl with
      | none => rfl
      | some o =>
        rcases n5 Dl o z with y | y
        · rw [hF2] at y
          cases y
        · rw [hH3] at y
          cases y
    have E5' : Cy.En K H0 F0 F5 H5 σ G := E3.grow f5 g5 E5.ef n5
    have n5' : Nw F1 F5 H1 := n2.trans n5 (gg.trans k2)
    cases hfi : f i with
    | true =>
      show te σ4 H5 _
      refine hv i hlt hfi E5 _ fun v6 F6 H6 E6 f6 g6 n6 r6 => ?_
      have hH6 : H6 Dl = some (.lst acc) := g6 _ _ (g5 _ _ hH3)
      have hF6 : F6 Dl = none := by
        cases z : F6 Dl with
        | none => rfl
        | some o =>
          rcases n6 Dl o z with y | y
          · rw [hF5] at y
            cases y
          · rw [g5 _ _ hH3] at y
            cases y
      have hlen : acc.length ≤ i := by
        rw [hr.length]
        exact lcD_len i f v
      have n6' : Nw F1 F6 H1 := n5'.trans n6 ((gg.trans k2).trans g5)
      refine ⟨acc, hH6, sz_lt (by omega), F6, acc ++ [v6], ?_, ((e'.trans k1).trans f5).trans f6, ?_, n6', hF6, upd_same, ?_⟩
      · have E6' : Cy.En K H0 F0 F6 H6 σ G := E5'.grow f6 g6 E6.ef n6
        refine ⟨E6'.dat, fun j l h => ?_, E6'.dis, fun a o h => ?_, fun a o h => ?_, E6'.e1, E6'.nf, E6'.len⟩
        · obtain ⟨p, xs, a1, b1, c1, d1, r1⟩ := E1.own j l h
          obtain ⟨p2, xs2, a2, b2, c2, d2, r2⟩ := E6'.own j l h
          rw [a1] at a2
          cases a2
          have hne : p ≠ Dl := ne_of_none d1 hD
          exact ⟨p, xs2, a1, b2, c2, by rw [upd_ne hne]; exact d2, r2⟩
        · have hne : a ≠ Dl := fun z => by
            subst z
            rw [ex_none E1.e0 hD] at h
            cases h
          rw [upd_ne hne]
          exact E6'.e0 a o h
        · have hne : a ≠ Dl := fun z => by
            subst z
            rw [hF6] at h
            cases h
          rw [upd_ne hne]
          exact E6'.ef a o h
      · exact Ex.mut (((gg.trans k2).trans g5).trans g6) hD
      · rw [lcD_yes hfi]
        exact (hr.mono ((k1.trans f5).trans f6)).app (.cons r6 .nil)
    | false =>
      refine ⟨F5, acc, E5', (e'.trans k1).trans f5, (gg.trans k2).trans g5, n5', hF5, g5 _ _ hH3, ?_⟩
      rw [lcD_no hfi]
      exact hr.mono (k1.trans f5)
  · rintro H2 ⟨F', acc, E', e', gg, nn, hF, hH, hr⟩
    exact q Dl acc F' H2 E' e' gg nn hD hF hH hr
end
/-! [.. for k, v in x.f.items()] -/
def itemD (p : Key × D) : D := .tup [keyD p.1, p.2]
def pfst (d : D) : D := match d with
  | .tup [a, _] => a
  | _ => .non
def psnd (d : D) : D := match d with
  | .tup [_, b] => b
  | _ => .non
theorem wk_items {K : PySem.W.Frag} {F : Hp} {a : Addr} {od : Obj} {kvs : List (Key × V)} {es : List (Key × D)} (ha : F a = some (.frz od (.dK kvs))) (hk : kvs.map (fun p => p.1) = es.map (fun p => p.1)) (r : RpA K F (kvs.map fun p => p.2) (es.map fun p => p.2)) : WkD K F (Iti a od kvs) (es.map itemD) := by
  have hl : (es.map itemD).length = kvs.length := by
    have := congrArg List.length hk
    rw [List.length_map, List.length_map] at this
    rw [List.length_map, this]
  refine ⟨fun H => H a = some (.frz od (.dK kvs)), fun i H x H' => ∃ T k v, kvs[i]? = some (k, v) ∧ x = .ref T ∧ H T = none ∧ H' = upd H T (.tup [kV k, v]), by
    rw [hl]
    exact ⟨fun i H hi g => ⟨g, hi⟩, fun H g => ⟨g, Nat.le_refl _⟩, fun i H x H' hi g y => y⟩, fun H e => e _ _ ha, fun i H x H' F1 e1 e2 y => ?_⟩
  obtain ⟨T, k, v, h1, rfl, hT, rfl⟩ := y
  have hi : i < kvs.length := (List.getElem?_eq_some_iff.mp h1).1
  have hi2 : i < es.length := by
    rw [List.length_map] at hl
    omega
  have hF1 : F1 T = none := ex_none e2 hT
  obtain ⟨v', q1, q2⟩ := r.get (List.getElem?_eq_getElem (l := es.map fun p => p.2) (i := i) (by rw [List.length_map]; exact hi2))
  rw [List.getElem?_map, h1] at q1
  cases q1
  have hk2 : k = (es[i]'hi2).1 := by
    have z := congrArg (fun l => l[i]?) hk
    simp only [List.getElem?_map, h1, List.getElem?_eq_getElem hi2, Option.map_some] at z
    exact Option.some.inj z
  refine ⟨upd F1 T (.tup [kV k, v]), itemD (es[i]'hi2), Ex.new hF1, Ex.new hT, ex_upd_both e2, nw_upd hT (Nw.refl F1 H), ?_, .tup upd_same (.cons ?_ (.cons ?_ .nil))⟩
  · rw [List.getElem?_map, List.getElem?_eq_getElem hi2]
    rfl
  · rw [← hk2]
    exact rp_key k
  · rw [List.getElem_map] at q2
    exact (q2.mono e1).mono (Ex.new hF1)
theorem o_lcItems {K : PySem.W.Frag} {G G' : List Sl} {te : TE} {i j m : Nat} {f : Str} {C : Addr} {fs : List (Str × D)} {es : List (Key × D)} (hjm : j ≠ m) (hs : G[i]? = some (.dat (.obj C fs))) (hc : Cls K C) (hn : NoAttr K C f) (hf : fs.lookup f = some (.dic es)) (hz : es.length ≤ 40000) (w : Lk G G') (hp : ∀ p ∈ es, plnD p.2 = true)
    (x : D → D) (hv : ∀ p, p ∈ es → EvD K te (((wipeG G' [j, m]).set j (.dat (keyD p.1))).set m (.dat p.2)) (x (itemD p))) (hx : ∀ p ∈ es, plnD (x (itemD p)) = true) :
    EvO K (tLockE (tLc (iItems (tFld K (tVar i) f)) (gTup K 2 (gCons (gName j) (gCons (gName m) gNil))) tYes te [j, m])) G ((es.map itemD).map x) := .mk fun {H0 F0 F H σ} E Q q => by
  obtain ⟨v, hv1, rv⟩ := E.dat i _ hs
  cases rv with
  | obj h1 h2 h3 =>
    rename_i b dx gs
    obtain ⟨u, k1, k2⟩ := lookup_rp h2 h3 hf
    cases k2 with
    | dic ha hk hr =>
      rename_i a kvs
      have hab : b ≠ a := fun y => by
        subst y
        rw [h1] at ha
        cases ha
      refine ⟨a, _, E.ef _ _ ha, trivial, fun od => ?_⟩
      have hN : ∀ xs, (HO.dK kvs) ≠ .lst xs ∧ (HO.dK kvs) ≠ .tup xs := fun xs => ⟨(fun y => nomatch y), (fun y => nomatch y)⟩
      have hNF : ∀ xs, F a ≠ some (.lst xs) ∧ F a ≠ some (.tup xs) := fun xs => ⟨(fun y => by rw [ha] at y; cases y), (fun y => by rw [ha] at y; cases y)⟩
      have EL := E.locked (z := .frz od (.dK kvs)) w ha hN
      have hr' : RpA K (upd F a (.frz od (.dK kvs))) (kvs.map fun p => p.2) (es.map fun p => p.2) := hr.beside hNF (plnA_of fun d hd => by
        obtain ⟨p, hp1, rfl⟩ := List.mem_map.mp hd
        exact hp p hp1)
      have hFl : (upd F a (.frz od (.dK kvs))) a = some (.frz od (.dK kvs)) := upd_same
      have wk := wk_items hFl hk hr'
      have hl : (es.map itemD).length ≤ 40000 := by
        rw [List.length_map]
        exact hz
      have e : (es.map itemD).map x = lcD (es.map itemD).length (fun _ => true) (fun i => x ((es.map itemD).getD i .non)) := by
        have := lcD_items (es.map itemD) (fun _ => true) x
        rw [this, filter_true]
      have hget : ∀ n, n < (es.map itemD).length → ∃ p ∈ es, (es.map itemD).getD n .non = itemD p := fun n hn => by
        obtain ⟨p, h1, h2⟩ := List.mem_map.mp (getD_in D.non (es.map itemD) n hn)
        exact ⟨p, h1, h2.symm⟩
      refine ⟨.ref b, hv1, b, C, dx, gs, .ref a, rfl, by rw [upd_ne hab]; exact E.ef _ _ h1, hc, hn, k1, a, od, kvs, rfl, upd_same, ?_⟩
      have fin : tLc (fun σ H R => R (Iti a od kvs) H) (gTup K 2 (gCons (gName j) (gCons (gName m) gNil))) tYes te [j, m] σ (upd H a (.frz od (.dK kvs))) (fun v H' => H' a = some (.frz od (.dK kvs)) ∧ Q v (upd H' a (.dK kvs))) := by
       refine lc_at (J := Iti a od kvs) (G := G') (tt := tYes) (fun _ => true) (fun n => x ((es.map itemD).getD n .non)) (fun n => ((wipeG G' [j, m]).set j (.dat (pfst ((es.map itemD).getD n .non)))).set m (.dat (psnd ((es.map itemD).getD n .non)))) (keeps2 hjm) EL wk hl (fun n d h => ?_) (fun n hn => t_yes) (fun n hn _ => ?_) _ (fun p xs F2 H2 E2 f2 g2 n2 hp2 hF2 hH2 hr2 => ?_)
       · obtain ⟨h1, h2⟩ := List.getElem?_eq_some_iff.mp h
         rw [getD_of h1, h2]
         obtain ⟨p, _, rfl⟩ := List.mem_map.mp (h2 ▸ List.getElem_mem h1)
         exact g_tup (gs_cons g_name (gs_cons g_name gs_nil)) rfl
       · obtain ⟨p, h1, h2⟩ := hget n hn
         show EvD K te _ (x ((es.map itemD).getD n .non))
         rw [h2]
         exact hv p h1
       · have hpa : p ≠ a := fun y => by
           subst y
           rw [upd_same] at hp2
           cases hp2
         obtain ⟨E3, f3, g3, n3⟩ := E.opened ha E2 f2 g2 n2
         refine ⟨g2 _ _ upd_same, q p xs _ _ E3 f3 g3 n3 (by rw [upd_ne hpa] at hp2; exact hp2) (by rw [upd_ne hpa]; exact hF2) (by rw [upd_ne hpa]; exact hH2) ?_⟩
         rw [e]
         have hFa : F2 a = some (.frz od (.dK kvs)) := f2 _ _ upd_same
         refine hr2.beside (fun xs => ⟨(fun y => by rw [hFa] at y; cases y), (fun y => by rw [hFa] at y; cases y)⟩) ?_
         rw [← e]
         exact plnA_of fun d hd => by
           obtain ⟨d', hd', rfl⟩ := List.mem_map.mp hd
           obtain ⟨p', hp', rfl⟩ := List.mem_map.mp hd'
           exact hx p' hp'
      exact fin
end Cy

set_option Elab.async false
set_option linter.all false
set_option maxRecDepth 100000
set_option maxHeartbeats 4000000
namespace Cy
open PySem PySem.Spec PyProof.Rows L2 Evl
section
variable {K : PySem.W.Frag} {M M1 M2 : Sto} {G G' G1 : List Sl} {te td ty tv tb to tx : TE} {ta tr : TA} {t u : TT} {tu tw tz : TS} {d a b c : D} {ds l : List D} {X : XK} {P P1 : Out → Sto → Prop} {R R1 : Res → Sto → Prop} {o : Out} {g : TG} {C : Addr}
/-- *e in a tuple -/
theorem s_star {es : List D} (h : EvD K te G (.tup es)) (hr : EvS K tr G ds) : EvS K (StX.tStar K te tr) G (es ++ ds) := .mk fun {H0 F0 F H σ} E Q q => h E _ fun v F1 H1 E1 f1 g1 n1 r1 => by
  cases r1 with
  | tup ha rs =>
    refine ⟨_, _, rfl, .inl (st_of (E1.ef _ _ ha)), hr E1 _ fun vs F2 H2 E2 f2 g2 n2 r2 => q _ F2 H2 E2 (f1.trans f2) (g1.trans g2) (n1.trans n2 g1) ((rs.mono f2).app r2)⟩
/-! new lists, each with what one of the store has -/
def updZ (M : Sto) : List (Addr × List D) → Sto
  | [] => M
  | p :: zs => fun b => if b = p.1 then some (.lst p.2) else updZ M zs b
theorem updZ_out {M : Sto} {b : Addr} : ∀ {zs : List (Addr × List D)}, b ∉ zs.map (fun p => p.1) → updZ M zs b = M b
  | [], _ => rfl
  | p :: zs, h => by
    rw [List.map_cons, List.mem_cons, not_or] at h
    unfold updZ
    rw [if_neg h.1]
    exact updZ_out h.2
theorem updZ_snoc {M : Sto} {a : Addr} {l : List D} : ∀ {zs : List (Addr × List D)}, a ∉ zs.map (fun p => p.1) → updZ M (zs ++ [(a, l)]) = updM (updZ M zs) a (.lst l)
  | [], _ => rfl
  | p :: zs, h => by
    rw [List.map_cons, List.mem_cons, not_or] at h
    funext b
    have ih := congrFun (updZ_snoc (M := M) (l := l) h.2) b
    show (if b = p.1 then some (.lst p.2) else updZ M (zs ++ [(a, l)]) b) = updM (fun b => if b = p.1 then some (.lst p.2) else updZ M zs b) a (.lst l) b
    by_cases q : b = a
    · subst q
      rw [updM_same, if_neg h.1, ih, updM_same]
    · rw [updM_ne q]
      by_cases y : b = p.1
      · rw [if_pos y, if_pos y]
      · rw [if_neg y, if_neg y, ih, updM_ne q]
theorem updZ_at {M : Sto} : ∀ {la : List Addr} {ls : List (List D)} {i : Nat}, la.Nodup → la.length = ls.length → i < la.length → updZ M (la.zip ls) (la.getD i 0) = some (.lst (ls.getD i []))
  | a :: la, l :: ls, 0, _, _, _ => if_pos rfl
  | a :: la, l :: ls, i + 1, hn, hl, hi => by
    rw [List.nodup_cons] at hn
    have hi' : i < la.length := Nat.lt_of_succ_lt_succ hi
    have hne : la.getD i 0 ≠ a := fun q => hn.1 (by
      rw [← q, List.getD_eq_getElem?_getD, List.getElem?_eq_getElem hi']
      exact List.getElem_mem hi')
    show (if la.getD i 0 = a then some (.lst l) else updZ M (la.zip ls) (la.getD i 0)) = some (.lst (ls.getD i []))
    rw [if_neg hne]
    exact updZ_at hn.2 (Nat.succ.inj hl) hi'
theorem zip_snoc2 {α β : Type} {x : α} : ∀ {xs : List α} {ls : List β} {n : Nat} {l : β}, ls[n]? = some l → xs.length = n → (xs ++ [x]).zip ls = xs.zip ls ++ [(x, l)]
  | [], [], n, l, h, _ => by simp at h
  | [], b :: ls, n, l, h, hl => by
    subst hl
    simp at h
    subst h
    show (x, b) :: [].zip ls = [(x, b)]
    rw [List.zip_nil_left]
  | a :: xs, [], n, l, h, _ => by simp at h
  | a :: xs, b :: ls, n, l, h, hl => by
    subst hl
    have h' : ls[xs.length]? = some l := by simpa using h
    show (a, b) :: (xs ++ [x]).zip ls = (a, b) :: (xs.zip ls ++ [(x, l)])
    rw [zip_snoc2 h' rfl]
theorem zip_fst_mem {α β : Type} {a : α} : ∀ {xs : List α} {ls : List β}, a ∈ (xs.zip ls).map (fun p => p.1) → a ∈ xs
  | [], _, h => by
    rw [List.zip_nil_left] at h
    cases h
  | x :: xs, [], h => by
    rw [List.zip_nil_right] at h
    cases h
  | x :: xs, l :: ls, h => by
    rw [List.zip_cons_cons, List.map_cons] at h
    rcases List.mem_cons.mp h with z | z
    · rw [z]
      exact List.mem_cons_self
    · exact List.mem_cons_of_mem _ (zip_fst_mem z)
theorem zip_take {α β : Type} : ∀ (xs : List α) (ls : List β), xs.zip (ls.take xs.length) = xs.zip ls
  | [], ls => by
    rw [List.zip_nil_left, List.zip_nil_left]
  | x :: xs, [] => by
    rw [List.take_nil]
  | x :: xs, l :: ls => by
    show (x, l) :: xs.zip (ls.take xs.length) = (x, l) :: xs.zip ls
    rw [zip_take xs ls]
/-- {k: list(v) for k, v in x.f.items()}: x a thing in the store, x.f a dict that stays, of lists in the store -/
theorem e_dcCopy {i j m : Nat} {x : Addr} {f : Str} {fs : List (Str × D)} {es : List (Key × D)} {la : List Addr} {ls : List (List D)} (hjm : j ≠ m) (hjG : j < G.length) (hmG : m < G.length) (hx : G[i]? = some (.dat (.ptr x))) (hm : M x = some (.ins C fs)) (hc : Cls K C) (hn : NoAttr K C f) (hf : fs.lookup f = some (.dic es)) (hu : (es.map fun p => p.1).Nodup) (hz : es.length ≤ 1000)
    (hla : (es.map fun p => p.2) = la.map D.ptr) (hll : ls.length = la.length) (hst : ∀ n, n < la.length → M (la.getD n 0) = some (.lst (ls.getD n [])))
    (hp : ∀ la2 : List Addr, la2.length = es.length → la2.Nodup → (∀ a ∈ la2, M a = none) → R (.ok (.dic ((es.map fun p => p.1).zip (la2.map D.ptr)))) (updZ M (la2.zip ls))) :
    EvM K (tLockE (tDc (iItems (tFld K (tVar i) f)) (gTup K 2 (gCons (gName j) (gCons (gName m) gNil))) tYes (tVar j) (tCB (rListOf K) (tCons (tVar m) tNil)) [j, m])) X M G R := ⟨fun {H0 F0 F H σ} E Q q qx => by
  obtain ⟨v, hv, rv⟩ := E.en.dat i _ hx
  cases rv
  obtain ⟨_, o, hH, hb⟩ := E.st x _ hm
  cases hb with
  | ins h4 h5 =>
    rename_i dx gs
    obtain ⟨w, hw1, hw2⟩ := get_rp h4 h5 hf
    cases hw2 with
    | dic hd hk hr =>
      rename_i d kvs
      have hHd := E.en.ef _ _ hd
      have hxd : x ≠ d := fun z => by
        subst z
        rw [hH] at hHd
        cases hHd
      have hlen : kvs.length = es.length := by
        have := congrArg List.length hk
        rwa [List.length_map, List.length_map] at this
      have hlen2 : la.length = es.length := by
        have := congrArg List.length hla
        rw [List.length_map, List.length_map] at this
        exact this.symm
      rw [hla] at hr
      refine ⟨d, _, hHd, trivial, fun od => ?_⟩
      unfold tDc iItems
      refine ⟨.ref x, ?_, x, C, dx, gs, .ref d, rfl, by rw [upd_ne hxd]; exact hH, hc, hn, hw1, d, od, kvs, rfl, upd_same, fun z hz1 => ?_⟩
      · first | exact hv | exact ⟨_, hv⟩
      have hdz : d ≠ z := fun y => by
        subst y
        rw [upd_same] at hz1
        cases hz1
      have hHz : H z = none := by
        rw [upd_ne hdz.symm] at hz1
        exact hz1
      have hFz := ex_none E.en.ef hHz
      have h0z := ex_none E.en.e0 hHz
      refine ⟨fun n m' H' => m' + n = kvs.length ∧ H' d = some (.frz od (.dK kvs)) ∧ (∀ a, H' a = none → H a = none) ∧ ∃ la2 : List Addr, ∃ acc : List (Key × V), la2.length = n ∧ la2.Nodup ∧ (∀ a ∈ la2, H a = none ∧ a ≠ z) ∧ acc = ((kvs.map fun p => p.1).zip (la2.map V.ref)) ∧ H' z = some (.dK acc) ∧ EnM K H0 F0 F (updZ M (la2.zip ls)) (upd H' d (.dK kvs)) σ G, ⟨kvs.length, rfl, by rw [upd_ne hdz]; exact upd_same, fun a h => ?_, [], [], rfl, List.nodup_nil, fun a h => (nomatch h), by rw [List.map_nil, List.zip_nil_right], upd_same, ?_⟩, ?_⟩
      · by_cases ha : a = z
        · rw [ha]
          exact hHz
        · rw [upd_ne ha] at h
          by_cases hb : a = d
          · rw [hb, upd_same] at h
            cases h
          · rw [upd_ne hb] at h
            exact h
      · rw [List.zip_nil_left, show updZ M [] = M from rfl, upd_swap (a := z) (b := d) hdz.symm, upd_upd, upd_id hHd]
        exact E.aside hFz h0z (E.free hHz) (E.freeO hHz)
      · rintro n m' H2 ⟨hmn, hd2, hback, la2, acc, hla2, hnd, hfr, hacc, hz2, E2⟩
        have hMl : ∀ a ∈ la2, M a = none := fun a ha => E.free (hfr a ha).1
        rcases Nat.eq_or_lt_of_le (show n ≤ kvs.length by omega) with hlt | hlt
        · refine .inl ⟨⟨hd2, by omega⟩, hd2, ?_⟩
          have hMz : updZ M (la2.zip ls) z = none := by
            rw [updZ_out (fun h => (hfr z (zip_fst_mem h)).2 rfl)]
            exact E.free hHz
          have hzz : upd H2 d (.dK kvs) z = some (.dK acc) := by
            rw [upd_ne hdz.symm]
            exact hz2
          have E3 := E2.addF (o := .dK acc) hFz hzz h0z hMz (E.freeO hHz)
          have hl1 : (kvs.map fun p => p.1).length = (la2.map V.ref).length := by rw [List.length_map, List.length_map]; omega
          have hl2 : (es.map fun p => p.1).length = (la2.map D.ptr).length := by rw [List.length_map, List.length_map]; omega
          refine q _ _ (hp la2 (by omega) hnd hMl) (.ref z) _ _ E3 (Ex.new hFz) (.dic upd_same ?_ ?_)
          · rw [hacc, List.map_fst_zip (by omega), List.map_fst_zip (by omega), hk]
          · rw [hacc, List.map_snd_zip (by omega), List.map_snd_zip (by omega)]
            have : ∀ l : List Addr, RpA K (upd F z (.dK acc)) (l.map V.ref) (l.map D.ptr) := fun l => by
              induction l with
              | nil => exact .nil
              | cons a l ih => exact .cons (.ptr a) ih
            rw [← hacc]
            exact this la2
        · refine .inr ⟨⟨hd2, hlt⟩, fun H' => H' d = some (.frz od (.dK kvs)) ∧ (∀ a, H' a = none → H a = none) ∧ ∃ la2 : List Addr, ∃ acc : List (Key × V), la2.length = n + 1 ∧ la2.Nodup ∧ (∀ a ∈ la2, H a = none ∧ a ≠ z) ∧ acc = ((kvs.map fun p => p.1).zip (la2.map V.ref)) ∧ H' z = some (.dK acc) ∧ EnM K H0 F0 F (updZ M (la2.zip ls)) (upd H' d (.dK kvs)) σ G, fun H' p' => ⟨m' - 1, by omega, by omega, p'⟩, fun y H3 hy => ?_⟩
          obtain ⟨T, k, vv, hk1, rfl, hT, rfl⟩ := hy
          have hTd : T ≠ d := fun y => by
            subst y
            rw [hd2] at hT
            cases hT
          have hTz : T ≠ z := fun y => by
            subst y
            rw [hz2] at hT
            cases hT
          have hjl : j < σ.length := by
            rw [E.en.len]
            exact hjG
          have hml : m < σ.length := by
            rw [E.en.len]
            exact hmG
          -- the list that is copied
          have hnla : n < la.length := by omega
          obtain ⟨vv', r1, r2⟩ := hr.get (List.getElem?_eq_getElem (l := la.map D.ptr) (i := n) (by rw [List.length_map]; exact hnla))
          rw [List.getElem?_map, hk1] at r1
          cases r1
          rw [List.getElem_map] at r2
          have hvv : vv = .ref (la.getD n 0) := by
            rw [List.getD_eq_getElem?_getD, List.getElem?_eq_getElem hnla]
            cases r2
            rfl
          have hMa := hst n hnla
          have hna2 : la.getD n 0 ∉ (la2.zip ls).map (fun p => p.1) := fun y => by
            rw [hMl _ (zip_fst_mem y)] at hMa
            cases hMa
          obtain ⟨_, oa, hoa, boa⟩ := E2.st (la.getD n 0) _ (by rw [updZ_out hna2]; exact hMa)
          cases boa with
          | lst rys =>
            rename_i ys
            have had : la.getD n 0 ≠ d := fun y => by
              rw [y, upd_same] at hoa
              cases hoa
            rw [upd_ne had] at hoa
            have haT : la.getD n 0 ≠ T := fun y => by
              rw [y, hT] at hoa
              cases hoa
            refine ⟨T, [kV k, vv], rfl, Or.inl (Or.inl upd_same), rfl, kV k, [vv], rfl, vv, [], rfl, rfl, ?_⟩
            refine ⟨?_, ?_⟩
            · rw [wipe_set_in (by simp), wipe_set_in (by simp)]
              exact wipe_twice fun u hu => hu
            unfold tYes
            dsimp only
            rw [if_pos rfl]
            refine ⟨kV k, by rw [List.getElem?_set_ne (Ne.symm hjm)]; exact List.getElem?_set_self (by rw [wipe_length]; exact hjl), vv, List.getElem?_set_self (by rw [List.length_set, wipe_length]; exact hml), la.getD n 0, ys, by rw [hvv], .inl (sq_of (by rw [upd_ne haT]; exact hoa)), fun p hpn => ?_⟩
            have hpT : p ≠ T := fun y => by
              subst y
              rw [upd_same] at hpn
              cases hpn
            rw [upd_ne hpT] at hpn
            have hpd : p ≠ d := fun y => by
              subst y
              rw [hd2] at hpn
              cases hpn
            have hpz : p ≠ z := fun y => by
              subst y
              rw [hz2] at hpn
              cases hpn
            have hlacc : acc.length = n := by
              rw [hacc, List.length_zip, List.length_map, List.length_map]
              omega
            have hTu : upd H2 d (.dK kvs) T = none := by
              rw [upd_ne hTd]
              exact hT
            have E2T := E2.aside (o := .tup [kV k, vv]) (z := T) (ex_none E2.en.ef hTu) (ex_none E2.en.e0 hTu) (E2.free hTu) (E2.freeO hTu)
            have hHu : upd (upd H2 d (.dK kvs)) T (.tup [kV k, vv]) p = none := by
              rw [upd_ne hpT, upd_ne hpd]
              exact hpn
            have hFp := ex_none E2T.en.ef hHu
            have h0p := ex_none E2T.en.e0 hHu
            have hMp : updZ M (la2.zip ls) p = none := E2T.free hHu
            have hHp : H p = none := hback p hpn
            have hpla : p ∉ la2 := fun y => by
              have hi := List.getElem_of_mem y
              obtain ⟨r, hr1, hr2⟩ := hi
              have hat := updZ_at (M := M) (la := la2) (ls := ls.take la2.length) hnd (by rw [List.length_take]; omega) hr1
              have hzip : la2.zip (ls.take la2.length) = la2.zip ls := zip_take la2 ls
              rw [hzip, List.getD_eq_getElem?_getD, List.getElem?_eq_getElem hr1] at hat
              have hat2 : updZ M (la2.zip ls) (la2[r]'hr1) = some (.lst ((ls.take la2.length).getD r [])) := hat
              rw [hr2, hMp] at hat2
              cases hat2
            have hnew : (acc.any fun kv => decide (kv.1 = k)) = false := by
              rw [← Bool.not_eq_true]
              intro hany
              obtain ⟨e1, he1, he2⟩ := List.any_eq_true.mp hany
              have he3 := of_decide_eq_true he2
              rw [hacc] at he1
              have hu' : (kvs.map fun p => p.1).Nodup := by
                rw [hk]
                exact hu
              obtain ⟨r, hr1, hr2⟩ := List.getElem_of_mem he1
              rw [List.getElem_zip] at hr2
              rw [List.length_zip, List.length_map, List.length_map] at hr1
              have hr3 : (kvs.map fun p => p.1)[r]'(by rw [List.length_map]; omega) = k := by
                rw [← he3, ← hr2]
              have hn3 : (kvs.map fun p => p.1)[n]'(by rw [List.length_map]; omega) = k := by
                rw [List.getElem_map]
                have := List.getElem?_eq_some_iff.mp hk1
                obtain ⟨h1, h2⟩ := this
                rw [h2]
              exact List.pairwise_iff_getElem.mp hu' r n (by rw [List.length_map]; omega) (by rw [List.length_map]; omega) (by omega) (hr3.trans hn3.symm)
            refine ⟨acc, k, rfl, by rw [upd_ne hpz.symm, upd_ne hTz.symm]; exact hz2, sz_lt (by omega), ?_, fun a h => ?_, la2 ++ [p], putK acc k (.ref p), by rw [List.length_append, hla2]; rfl, ?_, ?_, ?_, upd_same, ?_⟩
            · rw [upd_ne hdz, upd_ne hpd.symm, upd_ne hTd.symm]
              exact hd2
            · by_cases ha : a = z
              · rw [ha]
                exact hHz
              · rw [upd_ne ha] at h
                by_cases hb : a = p
                · rw [hb]
                  exact hHp
                · rw [upd_ne hb] at h
                  by_cases hcT : a = T
                  · rw [hcT]
                    exact hback T hT
                  · rw [upd_ne hcT] at h
                    exact hback a h
            · exact List.nodup_append.mpr ⟨hnd, List.nodup_cons.mpr ⟨fun h => (nomatch h), List.nodup_nil⟩, fun a ha b hb => by
                rw [List.mem_singleton] at hb
                subst hb
                exact fun y => hpla (y ▸ ha)⟩
            · intro a ha
              rcases List.mem_append.mp ha with y | y
              · exact hfr a y
              · rw [List.mem_singleton.mp y]
                exact ⟨hHp, hpz⟩
            · unfold putK
              rw [hnew, List.map_append, hacc]
              refine (zip_snoc ?_ (by rw [List.length_map, hla2])).symm
              rw [List.getElem?_map, hk1]
              rfl
            · have hlsn : ls[n]? = some (ls.getD n []) := by
                rw [List.getD_eq_getElem?_getD, List.getElem?_eq_getElem (by omega)]
                rfl
              rw [zip_snoc2 hlsn hla2, updZ_snoc (fun y => hpla (zip_fst_mem y)), upd_swap (a := z) (b := d) hdz.symm, upd_swap (a := p) (b := d) hpd, upd_swap (a := T) (b := d) hTd]
              have E3 := E2T.grow (Ex.refl F) (Ex.new (o := .lst ys) hHu) (E2T.en.ef.trans (Ex.new hHu)) (Nw.refl F _)
              have E4 := E3.new (n := .lst (ls.getD n [])) upd_same hFp h0p (fun j w hj hs => E2T.freeO hHu j w hj hs) (.lst rys)
              refine E4.aside hFz h0z ?_ (fun j w hj hs => E.freeO hHz j w hj hs)
              rw [updM_ne hpz.symm, updZ_out (fun h => (hfr z (zip_fst_mem h)).2 rfl)]
              exact E.free hHz⟩
end
end Cy

set_option Elab.async false
set_option linter.all false
set_option maxRecDepth 100000
set_option maxHeartbeats 4000000
namespace Cy
open PySem PySem.Spec PyProof.Rows L2 Evl
section
variable {K : PySem.W.Frag} {M M1 M2 : Sto} {G G' G1 : List Sl} {te td ty tv tb to tx : TE} {ta tr : TA} {t u : TT} {tu tw tz : TS} {d a b c : D} {ds l : List D} {X : XK} {P P1 : Out → Sto → Prop} {R R1 : Res → Sto → Prop} {o : Out} {g : TG} {C : Addr} {es : List (Key × D)}
/-- dict(d) -/
def rDictD (K : PySem.W.Frag) : List V → Hp → VK → Prop := fun xs H Q => ∃ (a : Addr) (kvs : List (Key × V)), xs = [.ref a] ∧ Rd H a (.dK kvs) ∧ ∀ p, H p = none → Q (.ref p) (upd H p (.dK kvs))
theorem call_gDictD {X : Cx} : CallR X (.type "dict") (rDictD X.K) := call_dictD
theorem e_mdictD {p : Addr} (h : EvR K te M G (.ptr p)) (hm : M p = some (.dic es)) (hp : ∀ q, M q = none → R (.ok (.ptr q)) (updM M q (.dic es))) : EvM K (tCB (rDictD K) (tCons te tNil)) X M G R := ⟨fun {H0 F0 F H σ} E Q q qx =>
  h.run E _ fun v F1 H1 E1 f1 r1 => by
    cases r1
    obtain ⟨_, o, ha, hb⟩ := E1.st p _ hm
    cases hb with
    | dic hn hr =>
      rename_i kvs
      refine ⟨p, kvs, rfl, .inl ha, fun z hz => ?_⟩
      have hF : F1 z = none := ex_none E1.en.ef hz
      have E2 := E1.grow (Ex.refl F1) (Ex.new (o := .dK kvs) hz) (E1.en.ef.trans (Ex.new hz)) (Nw.refl F1 H1)
      exact q _ _ (hp z (E1.free hz)) (.ref z) F1 _ (E2.new upd_same hF (ex_none E1.en.e0 hz) (fun i w hi hs => E1.freeO hz i w hi hs) (.dic hn hr)) f1 (.ptr z)⟩
/-- sorted(d), texts -/
def rSortedD (K : PySem.W.Frag) : List V → Hp → VK → Prop := fun xs H Q => ∃ (a : Addr) (kvs : List (Key × V)) (ks : List Str), xs = [.ref a] ∧ Rd H a (.dK kvs) ∧ kvs.map (·.1) = ks.map Sum.inr ∧ ks.length < 64 ∧
    ∀ ys p, ys.Perm ks → sortedS ys = true → H p = none → Q (.ref p) (upd H p (.lst (ys.map V.str)))
theorem call_gSortedD {X : Cx} (hc : X.calm = true) : CallR X (.builtin "sorted") (rSortedD X.K) := call_sortedD hc
/-- dict(xs) of pairs, no key twice -/
def rDictP (K : PySem.W.Frag) : List V → Hp → VK → Prop := fun xs H Q => ∃ (a : Addr) (ps : List Addr) (kvs : List (Key × V)), xs = [.ref a] ∧ SqL K H a (ps.map V.ref) ∧ Paired (fun p kv => SqT K H p [kV kv.1, kv.2]) ps kvs ∧
    ∀ p, H p = none → Q (.ref p) (upd H p (.dK (mergeK [] kvs)))
theorem call_gDictP {X : Cx} (hc : X.calm = true) : CallR X (.type "dict") (rDictP X.K) := call_dictP hc
end
end Cy

set_option Elab.async false
set_option linter.all false
set_option maxRecDepth 100000
set_option maxHeartbeats 4000000
namespace Cy
open PySem PySem.Spec PyProof.Rows L2 Evl
/-! texts in their order -/
def leS (a b : Str) : Prop := a.cps.toList ≤ b.cps.toList
theorem ltc {a b : Str} (h : ltCps b.cps.toList a.cps.toList = false) : leS a b := by
  rw [ltCps_eq] at h
  exact of_decide_eq_false h
theorem ltc' {a b : Str} (h : leS a b) : ltCps b.cps.toList a.cps.toList = false := by
  rw [ltCps_eq]
  exact decide_eq_false h
theorem rising_pw : ∀ (p : Str) (l : List Str), risingS p l = true → (p :: l).Pairwise leS
  | p, [], _ => List.pairwise_singleton _ _
  | p, x :: r, h => by
    have h' : (!ltCps x.cps.toList p.cps.toList && risingS x r) = true := h
    rw [Bool.and_eq_true, Bool.not_eq_true'] at h'
    have ih := rising_pw x r h'.2
    have hpx : leS p x := ltc h'.1
    refine List.pairwise_cons.mpr ⟨fun y hy => ?_, ih⟩
    rcases List.mem_cons.mp hy with z | z
    · rw [z]
      exact hpx
    · exact List.le_trans hpx ((List.pairwise_cons.mp ih).1 y z)
theorem sorted_pw : ∀ (l : List Str), sortedS l = true → l.Pairwise leS
  | [], _ => List.Pairwise.nil
  | x :: r, h => rising_pw x r h
theorem str_ext {a b : Str} (h : a.cps.toList = b.cps.toList) : a = b := by
  cases a with
  | mk x =>
    cases b with
    | mk y =>
      have : x = y := Array.toList_inj.mp h
      rw [this]
theorem sorted_one {l m : List Str} (hl : sortedS l = true) (hm : sortedS m = true) (p : l.Perm m) : l = m :=
  List.Perm.eq_of_pairwise (le := leS) (fun a b _ _ h1 h2 => str_ext (List.le_antisymm h1 h2)) (sorted_pw l hl) (sorted_pw m hm) p
def srtS (l : List Str) : List Str := l.mergeSort fun a b => !ltCps b.cps.toList a.cps.toList
theorem srt_perm (l : List Str) : (srtS l).Perm l := List.mergeSort_perm l _
theorem srt_ok (l : List Str) : sortedS (srtS l) = true := by
  refine sortedS_of_pairwise _ ?_
  have := List.pairwise_mergeSort (le := fun a b : Str => !ltCps b.cps.toList a.cps.toList) (fun a b c h1 h2 => ?_) (fun a b => ?_) l
  · exact this.imp fun h => by simpa using h
  · rw [Bool.not_eq_true'] at h1 h2 ⊢
    exact ltc' (List.le_trans (ltc h1) (ltc h2))
  · rw [Bool.or_eq_true, Bool.not_eq_true', Bool.not_eq_true']
    rcases List.le_total a.cps.toList b.cps.toList with h | h
    · exact .inl (ltc' h)
    · exact .inr (ltc' h)
section
variable {K : PySem.W.Frag} {es : List (Key × D)}
theorem n_sortedD {ks : List Str} (hk : es.map (fun p => p.1) = ks.map Sum.inr) (hz : ks.length < 64) : OpNO K (rSortedD K) [.dic es] ((srtS ks).map D.str) := .mk fun {F H vs} e r Q q => by
  obtain ⟨v, rfl, r1⟩ := rpa1 r
  cases r1 with
  | dic ha hn hr =>
    refine ⟨_, _, ks, rfl, .inl (e _ _ ha), hn.trans hk, hz, fun ys p hp hs hn' => ?_⟩
    rw [sorted_one hs (srt_ok ks) (hp.trans (srt_perm ks).symm)]
    refine q p _ _ (Ex.new hn') hn' upd_same ?_
    have : ∀ l : List Str, RpA K F (l.map V.str) (l.map D.str) := fun l => by
      induction l with
      | nil => exact .nil
      | cons a l ih => exact .cons (.str a) ih
    exact this _
theorem n_sortedL {ks : List Str} (hz : ks.length < 64) : OpNO K (rSortedS K) [.lst (ks.map D.str)] ((srtS ks).map D.str) := .mk fun {F H vs} e r Q q => by
  obtain ⟨v, rfl, r1⟩ := rpa1 r
  cases r1 with
  | lst ha rs =>
    refine ⟨_, ks, rfl, sq_of (by rw [e _ _ ha, rs.strs]), hz, fun ys p hp hs hn' => ?_⟩
    rw [sorted_one hs (srt_ok ks) (hp.trans (srt_perm ks).symm)]
    refine q p _ _ (Ex.new hn') hn' upd_same ?_
    have : ∀ l : List Str, RpA K F (l.map V.str) (l.map D.str) := fun l => by
      induction l with
      | nil => exact .nil
      | cons a l ih => exact .cons (.str a) ih
    exact this _
end
end Cy

set_option Elab.async false
set_option linter.all false
set_option maxRecDepth 100000
set_option maxHeartbeats 4000000
namespace Cy
open PySem PySem.Spec PyProof.Rows L2 Evl
section
variable {K : PySem.W.Frag} {M M1 M2 : Sto} {G G' G1 : List Sl} {te td ty tv tb to tx : TE} {ta tr : TA} {t u : TT} {tu tw tz : TS} {d a b c : D} {ds l : List D} {X : XK} {P P1 : Out → Sto → Prop} {R R1 : Res → Sto → Prop} {o : Out} {g : TG} {C : Addr} {es : List (Key × D)}
theorem putK_new {kvs : List (Key × V)} {k : Key} {v : V} (h : k ∉ kvs.map fun p => p.1) : putK kvs k v = kvs ++ [(k, v)] := by
  have hn : (kvs.any fun kv => decide (kv.1 = k)) = false := by
    rw [← Bool.not_eq_true]
    intro ha
    obtain ⟨kv, h1, h2⟩ := List.any_eq_true.mp ha
    exact h (List.mem_map.mpr ⟨kv, h1, of_decide_eq_true h2⟩)
  unfold putK
  rw [hn]
  rfl
theorem mergeK_nodup : ∀ {more acc : List (Key × V)}, ((acc ++ more).map fun p => p.1).Nodup → mergeK acc more = acc ++ more
  | [], acc, _ => by
    rw [List.append_nil]
    rfl
  | p :: more, acc, h => by
    have h1 : p.1 ∉ acc.map fun p => p.1 := fun q => by
      rw [List.map_append, List.map_cons] at h
      exact (List.nodup_append.mp h).2.2 p.1 q p.1 List.mem_cons_self rfl
    show mergeK (putK acc p.1 p.2) more = _
    rw [putK_new h1]
    have : (acc ++ [(p.1, p.2)]) ++ more = acc ++ p :: more := by simp
    rw [mergeK_nodup (by rw [this]; exact h), this]
/-- dict(xs) of pairs, no key twice -/
theorem n_dictP (hu : (es.map fun p => p.1).Nodup) : OpN K (rDictP K) [.lst (es.map itemD)] (.dic es) := .mk fun {F H vs} e r Q q => by
  obtain ⟨v, rfl, r1⟩ := rpa1 r
  cases r1 with
  | lst ha rs =>
    rename_i a xs
    have go : ∀ {es : List (Key × D)} {xs : List V}, RpA K F xs (es.map itemD) → ∃ (ps : List Addr) (kvs : List (Key × V)), xs = ps.map V.ref ∧ Paired (fun p kv => SqT K H p [kV kv.1, kv.2]) ps kvs ∧ kvs.map (fun p => p.1) = es.map (fun p => p.1) ∧ RpA K F (kvs.map fun p => p.2) (es.map fun p => p.2) := by
      intro es
      induction es with
      | nil =>
        intro xs r
        cases r
        exact ⟨[], [], rfl, .nil, rfl, .nil⟩
      | cons p es ih =>
        intro xs r
        rw [List.map_cons] at r
        cases r with
        | cons r1 r2 =>
          obtain ⟨ps, kvs, h1, h2, h3, h4⟩ := ih r2
          cases r1 with
          | tup hb rb =>
            rename_i ad ys
            obtain ⟨v1, v2, rfl, k1, k2⟩ := rpa2 rb
            have hv := key_rp k1
            subst hv
            exact ⟨ad :: ps, (p.1, v2) :: kvs, by rw [h1]; rfl, .cons (st_of (e _ _ hb)) h2, by rw [List.map_cons, List.map_cons, h3], .cons k2 h4⟩
    obtain ⟨ps, kvs, h1, h2, h3, h4⟩ := go rs
    have hm : mergeK [] kvs = kvs := mergeK_nodup (acc := []) (by rw [List.nil_append, h3]; exact hu)
    refine ⟨a, ps, kvs, rfl, sq_of (by rw [e _ _ ha, h1]), h2, fun p hp => ?_⟩
    rw [hm]
    have hF : F p = none := ex_none e hp
    have ef : Ex F (upd F p (.dK kvs)) := Ex.new hF
    exact q (.ref p) _ _ ef (ex_upd_both e) (Ex.new hp) (nw_upd hp (Nw.refl F H)) (.dic upd_same h3 (h4.mono ef))
/-- a tuple whose parts change the store -/
theorem e_mtup {R2 : List D → Sto → Prop} (h : EvSM K ta M G R2) (hl : ∀ ds M', R2 ds M' → ds.length ≤ 100000) (hp : ∀ ds M', R2 ds M' → R (.ok (.tup ds)) M') : EvM K (tTup ta) X M G R := ⟨fun {H0 F0 F H σ} E Q q qx =>
  h.run E _ fun ds M' k vs F1 H1 E1 f1 r1 => ⟨sz_of (by rw [r1.length]; exact hl ds M' k), fun p hpn => by
    have hF : F1 p = none := ex_none E1.en.ef hpn
    have ef : Ex F1 (upd F1 p (.tup vs)) := Ex.new hF
    exact q _ M' (hp ds M' k) (.ref p) (upd F1 p (.tup vs)) _ (E1.grow ef (Ex.new hpn) (ex_upd_both E1.en.ef) (nw_upd hpn (Nw.refl F1 H1))) (f1.trans ef) (.tup upd_same (r1.mono ef))⟩⟩
theorem updL_snoc' {M : Sto} {la : List Addr} {a : Addr} {n : Nd} : updL M (la ++ [a]) n = updM (updL M la n) a n := updL_snoc
/-- [(key, []) for x in xs]: new lists -/
theorem e_lcNewP {wi : TI} {items : List D} {j : Nat} {tk : TE} (kf : D → Key) (hi : ItD K wi G items) (hz : items.length ≤ 40000) (hk : ∀ dx ∈ items, EvD K tk (G.set j (.dat dx)) (keyD (kf dx)))
    (hp : ∀ la : List Addr, la.length = items.length → la.Nodup → (∀ a ∈ la, M a = none) → R (.ok (.lst (((items.map kf).zip (la.map D.ptr)).map itemD))) (updL M la (.lst []))) :
    EvM K (tLc wi (gName j) tYes (tTup (tCons tk (tCons (tLst tNil) tNil))) [j]) X M G R := ⟨fun {H0 F0 F H σ} E Q q qx => by
  refine hi E.en _ fun Jt F1 H1 E1 f1 g1 n1 wk => ?_
  obtain ⟨Gp, Y, w, hg, hy⟩ := wk.ex
  have En1 := E.withG E1 f1 g1 n1
  intro Dl hD
  refine lc_it w (fun i H' => ∃ F' la acc, EnM K H0 F0 F' (updL M la (.lst [])) H' σ G ∧ Ex F1 F' ∧ F' Dl = none ∧ Dl ∉ la ∧ H' Dl = some (.lst acc) ∧ RpA K F' acc ((((items.take i).map kf).zip (la.map D.ptr)).map itemD) ∧ la.length = i ∧ la.Nodup ∧ (∀ a ∈ la, M a = none)) ?_ (fun i H' _ ⟨F', la, acc, E', e', _⟩ => hg H' (e'.trans E'.en.ef)) ?_ ?_
  · refine ⟨F1, [], [], ?_, Ex.refl _, ex_none E1.ef hD, fun h => (nomatch h), upd_same, ?_, rfl, List.nodup_nil, fun a h => (nomatch h)⟩
    · rw [updL_nil]
      exact En1.aside (ex_none E1.ef hD) (ex_none E1.e0 hD) (En1.free hD) (En1.freeO hD)
    · rw [List.map_nil, List.zip_nil_right]
      exact .nil
  · rintro i x H2 H3 hlt ⟨F', la, acc, E', e', hF, hDla, hH, hr, hlen, hnd, hfr⟩ y
    obtain ⟨F2, d, k1, k2, k3, k4, hd2, r2⟩ := hy i H2 x H3 F' e' E'.en.ef y
    have E3 := E'.grow k1 k2 k3 k4
    refine keeps1 x σ H3 _ ?_
    have eσ : (L2.wipe σ [j]).set j (some x) = σ.set j (some x) := by
      show ((σ.set j none).set j (some x)) = _
      rw [List.set_set]
    unfold gName
    rw [eσ]
    unfold tYes
    dsimp only
    rw [if_pos rfl]
    have hdm : d ∈ items := by
      obtain ⟨h1, h2⟩ := List.getElem?_eq_some_iff.mp hd2
      exact h2 ▸ List.getElem_mem h1
    have hH3 : H3 Dl = some (.lst acc) := k2 _ _ hH
    have hF2 : F2 Dl = none := by
      cases z : F2 Dl with
      | none => rfl
      | some o =>
        rcases k4 Dl o z with y | y
        · rw [hF] at y
          cases y
        · rw [hH] at y
          cases y
    refine hk d hdm (E3.en.setD r2 j) _ fun v F4 H4 E4 f4 g4 n4 r4 => ?_
    have hv := key_rp r4
    subst hv
    have hF4 : F4 Dl = none := by
      cases z : F4 Dl with
      | none => rfl
      | some o =>
        rcases n4 Dl o z with y | y
        · rw [hF2] at y
          cases y
        · rw [hH3] at y
          cases y
    have E5 := E3.grow f4 g4 E4.ef n4
    refine ⟨sz_of (Nat.zero_le _), fun p hpn => ⟨sz_of (by show 2 ≤ 100000; decide), fun T hT => ?_⟩⟩
    have hH4 : H4 Dl = some (.lst acc) := g4 _ _ hH3
    have hpD : p ≠ Dl := fun y => by
      rw [y, hH4] at hpn
      cases hpn
    have hTp : T ≠ p := fun y => by
      rw [y, upd_same] at hT
      cases hT
    rw [upd_ne hTp] at hT
    have hTD : T ≠ Dl := fun y => by
      rw [y, hH4] at hT
      cases hT
    have hFp := ex_none E5.en.ef hpn
    have h0p := ex_none E5.en.e0 hpn
    have hMp : updL M la (.lst []) p = none := E5.free hpn
    have hpla : p ∉ la := fun y => by
      rw [updL_in y] at hMp
      cases hMp
    have hMp0 : M p = none := by
      rw [updL_out hpla] at hMp
      exact hMp
    have E6 := (E5.grow (Ex.refl F4) (Ex.new (o := .lst []) hpn) (E5.en.ef.trans (Ex.new hpn)) (Nw.refl F4 H4)).new (n := .lst []) upd_same hFp h0p (fun i w hj hs => E5.freeO hpn i w hj hs) (.lst .nil)
    have hTu : upd H4 p (.lst []) T = none := by
      rw [upd_ne hTp]
      exact hT
    have hFT := ex_none E6.en.ef hTu
    have eT : Ex F4 (upd F4 T (.tup [kV (kf d), .ref p])) := Ex.new hFT
    have E7 := E6.grow eT (Ex.new hTu) (ex_upd_both E6.en.ef) (nw_upd hTu (Nw.refl F4 _))
    have hlacc : acc.length = i := by
      rw [hr.length, List.length_map, List.length_zip, List.length_map, List.length_take, List.length_map]
      omega
    refine ⟨acc, by rw [upd_ne hTD.symm, upd_ne hpD.symm]; exact hH4, sz_lt (by omega), upd F4 T (.tup [kV (kf d), .ref p]), la ++ [p], acc ++ [.ref T], ?_, ((e'.trans k1).trans f4).trans eT, by rw [upd_ne hTD.symm]; exact hF4, fun y => ?_, upd_same, ?_, by rw [List.length_append, hlen]; rfl, ?_, fun a ha => ?_⟩
    · rw [updL_snoc']
      refine E7.aside (by rw [upd_ne hTD.symm]; exact hF4) (ex_none E1.e0 hD) ?_ (fun i w hj hs => En1.freeO hD i w hj hs)
      rw [updM_ne hpD.symm, updL_out hDla]
      exact En1.free hD
    · rcases List.mem_append.mp y with y | y
      · exact hDla y
      · exact hpD (List.mem_singleton.mp y).symm
    · have et : (items.take (i + 1)).map kf = (items.take i).map kf ++ [kf d] := by
        have : items.take (i + 1) = items.take i ++ [d] := by
          rw [List.take_succ, hd2]
          rfl
        rw [this, List.map_append]
        rfl
      have ez : ((items.take i).map kf ++ [kf d]).zip ((la ++ [p]).map D.ptr) = ((items.take i).map kf).zip (la.map D.ptr) ++ [(kf d, D.ptr p)] := by
        rw [List.map_append]
        exact List.zip_append (by rw [List.length_map, List.length_map, List.length_take]; omega)
      rw [et, ez, List.map_append]
      exact (((hr.mono k1).mono f4).mono eT).app (.cons (.tup upd_same (.cons (rp_key _) (.cons (.ptr p) .nil))) .nil)
    · exact List.nodup_append.mpr ⟨hnd, List.nodup_cons.mpr ⟨(fun h => nomatch h), List.nodup_nil⟩, fun a ha b hb => by
        rw [List.mem_singleton] at hb
        subst hb
        exact fun y => hpla (y ▸ ha)⟩
    · rcases List.mem_append.mp ha with y | y
      · exact hfr a y
      · rw [List.mem_singleton.mp y]
        exact hMp0
  · rintro H2 ⟨F', la, acc, E', e', hF, hDla, hH, hr, hlen, hnd, hfr⟩
    rw [List.take_length] at hr
    have eD : Ex F' (upd F' Dl (.lst acc)) := Ex.new hF
    refine q _ _ (hp la hlen hnd hfr) (.ref Dl) _ H2 (E'.addF hF hH (ex_none E1.e0 hD) ?_ (fun i w hj hs => En1.freeO hD i w hj hs)) (f1.trans (e'.trans eD)) (.lst upd_same (hr.mono eD))
    rw [updL_out hDla]
    exact En1.free hD⟩
end
end Cy

set_option Elab.async false
set_option linter.all false
set_option maxRecDepth 100000
set_option maxHeartbeats 4000000
namespace Cy
open PySem PySem.Spec PyProof.Rows L2 Evl
theorem valE_mem {k : Key} {d : D} : ∀ {es : List (Key × D)}, valE es k = some d → d ∈ es.map fun p => p.2
  | p :: es, h => by
    by_cases e : p.1 = k
    · rw [valE_pos e] at h
      cases h
      exact List.mem_cons_self
    · rw [valE_neg e] at h
      exact List.mem_cons_of_mem _ (valE_mem h)
theorem walk_iti {d : Addr} {od : Obj} {kvs : List (Key × V)} : Walk (Iti d od kvs) kvs.length (fun H => H d = some (.frz od (.dK kvs))) (fun i H x H' => ∃ T k v, kvs[i]? = some (k, v) ∧ x = .ref T ∧ H T = none ∧ H' = upd H T (.tup [kV k, v])) :=
  ⟨fun i H hi g => ⟨g, hi⟩, fun H g => ⟨g, Nat.le_refl _⟩, fun i H x H' hi g y => y⟩
section
variable {K : PySem.W.Frag} {M M1 M2 : Sto} {G G' G1 : List Sl} {te td ty tv tb to tx : TE} {ta tr : TA} {t u : TT} {tu tw tz : TS} {d a b c : D} {ds l : List D} {X : XK} {P P1 : Out → Sto → Prop} {R R1 : Res → Sto → Prop} {o : Out} {g : TG} {C : Addr} {es : List (Key × D)}
/-- [(k, list(v)) for k, v in own[k0].items()]: copies of lists in the store -/
theorem e_lcCopyP {i j m : Nat} {k0 : Str} {ds : List (Key × D)} {la : List Addr} {ls : List (List D)} (hjm : j ≠ m) (hjG : j < G.length) (hmG : m < G.length) (hx : G[i]? = some (.dat (.dic ds))) (hk0 : valE ds (.inr k0) = some (.dic es)) (hz : es.length ≤ 1000)
    (hla : (es.map fun p => p.2) = la.map D.ptr) (hll : ls.length = la.length) (hst : ∀ n, n < la.length → M (la.getD n 0) = some (.lst (ls.getD n [])))
    (hp : ∀ la2 : List Addr, la2.length = es.length → la2.Nodup → (∀ a ∈ la2, M a = none) → R (.ok (.lst (((es.map fun p => p.1).zip (la2.map D.ptr)).map itemD))) (updZ M (la2.zip ls))) :
    EvM K (tLockE (tLc (iItems (tDGet (tVar i) (tC (.str k0)))) (gTup K 2 (gCons (gName j) (gCons (gName m) gNil))) tYes (tTup (tCons (tVar j) (tCons (tCB (rListOf K) (tCons (tVar m) tNil)) tNil))) [j, m])) X M G R := ⟨fun {H0 F0 F H σ} E Q q qx => by
  obtain ⟨v, hv, rv⟩ := E.en.dat i _ hx
  cases rv with
  | dic ho hno hro =>
    rename_i ow kvo
    obtain ⟨v', hv1, rv'⟩ := (valE_rp hno hro).1 _ hk0
    cases rv' with
    | dic hd hk hr =>
      rename_i d kvs
      have hHd := E.en.ef _ _ hd
      have hlen : kvs.length = es.length := by
        have := congrArg List.length hk
        rwa [List.length_map, List.length_map] at this
      have hlen2 : la.length = es.length := by
        have := congrArg List.length hla
        rw [List.length_map, List.length_map] at this
        exact this.symm
      have hod : ow ≠ d := fun y => by
        subst y
        rw [ho] at hd
        cases hd
        cases q1 : valE es (.inr k0) with
        | none =>
          have := (valE_rp hk hr).2 q1
          rw [hv1] at this
          cases this
        | some d' =>
          obtain ⟨v2, w1, w2⟩ := (valE_rp hk hr).1 _ q1
          rw [hv1] at w1
          cases w1
          have hm := valE_mem q1
          rw [hla] at hm
          obtain ⟨a, ha, rfl⟩ := List.mem_map.mp hm
          cases w2
          obtain ⟨n, hn1, hn2⟩ := List.getElem_of_mem ha
          have hMa := hst n hn1
          rw [List.getD_eq_getElem?_getD, List.getElem?_eq_getElem hn1] at hMa
          have hMa2 : M ow = some (.lst (ls.getD n [])) := by
            rw [← hn2]
            exact hMa
          have := (E.st ow _ hMa2).1
          rw [ho] at this
          cases this
      rw [hla] at hr
      refine ⟨d, _, hHd, trivial, fun od => ?_⟩
      unfold tLc iItems
      have hget : DGet (upd H d (.frz od (.dK kvs))) ow (kV (.inr k0)) (valV kvo (.inr k0)) := DGet.k (by rw [upd_ne hod]; exact E.en.ef _ _ ho)
      rw [hv1] at hget
      refine ⟨.ref ow, hv, ow, .ref d, rfl, hget, d, od, kvs, rfl, upd_same, fun z hz1 => ?_⟩
      have hdz : d ≠ z := fun y => by
        subst y
        rw [upd_same] at hz1
        cases hz1
      have hHz : H z = none := by
        rw [upd_ne hdz.symm] at hz1
        exact hz1
      have hFz := ex_none E.en.ef hHz
      have h0z := ex_none E.en.e0 hHz
      refine lc_it walk_iti (fun n H' => ∃ (F' : Hp) (la2 : List Addr) (acc : List V), EnM K H0 F0 F' (updZ M (la2.zip ls)) (upd H' d (.dK kvs)) σ G ∧ Ex F F' ∧ F' z = none ∧ z ∉ la2 ∧ H' z = some (.lst acc) ∧ RpA K F' acc ((((es.map fun p => p.1).take n).zip (la2.map D.ptr)).map itemD) ∧ la2.length = n ∧ la2.Nodup ∧ (∀ a ∈ la2, M a = none) ∧ H' d = some (.frz od (.dK kvs))) ?_ (fun n H' _ ⟨F', la2, acc, _, _, _, _, _, _, _, _, _, h⟩ => h) ?_ ?_
      · refine ⟨F, [], [], ?_, Ex.refl _, hFz, fun h => (nomatch h), upd_same, ?_, rfl, List.nodup_nil, fun a h => (nomatch h), by rw [upd_ne hdz]; exact upd_same⟩
        · rw [List.zip_nil_left, show updZ M [] = M from rfl, upd_swap (a := z) (b := d) hdz.symm, upd_upd, upd_id hHd]
          exact E.aside hFz h0z (E.free hHz) (E.freeO hHz)
        · rw [List.map_nil, List.zip_nil_right]
          exact .nil
      · rintro n x H2 H3 hlt ⟨F', la2, acc, E2, e', hFz', hzla, hz2, hracc, hla2, hnd, hMl, hd2⟩ ⟨T, k, vv, hk1, rfl, hT, rfl⟩
        have hTd : T ≠ d := fun y => by
          subst y
          rw [hd2] at hT
          cases hT
        have hTz : T ≠ z := fun y => by
          subst y
          rw [hz2] at hT
          cases hT
        have hjl : j < σ.length := by
          rw [E.en.len]
          exact hjG
        have hml : m < σ.length := by
          rw [E.en.len]
          exact hmG
        have hnla : n < la.length := by omega
        obtain ⟨vv', r1, r2⟩ := hr.get (List.getElem?_eq_getElem (l := la.map D.ptr) (i := n) (by rw [List.length_map]; exact hnla))
        rw [List.getElem?_map, hk1] at r1
        cases r1
        rw [List.getElem_map] at r2
        have hvv : vv = .ref (la.getD n 0) := by
          rw [List.getD_eq_getElem?_getD, List.getElem?_eq_getElem hnla]
          cases r2
          rfl
        have hMa := hst n hnla
        have hna2 : la.getD n 0 ∉ (la2.zip ls).map (fun p => p.1) := fun y => by
          rw [hMl _ (zip_fst_mem y)] at hMa
          cases hMa
        obtain ⟨_, oa, hoa, boa⟩ := E2.st (la.getD n 0) _ (by rw [updZ_out hna2]; exact hMa)
        cases boa with
        | lst rys =>
          rename_i ys
          have had : la.getD n 0 ≠ d := fun y => by
            rw [y, upd_same] at hoa
            cases hoa
          rw [upd_ne had] at hoa
          have haT : la.getD n 0 ≠ T := fun y => by
            rw [y, hT] at hoa
            cases hoa
          refine ⟨T, [kV k, vv], rfl, Or.inl (Or.inl upd_same), rfl, kV k, [vv], rfl, vv, [], rfl, rfl, ?_⟩
          refine ⟨?_, ?_⟩
          · rw [wipe_set_in (by simp), wipe_set_in (by simp)]
            exact wipe_twice fun u hu => hu
          unfold tYes
          dsimp only
          rw [if_pos rfl]
          refine ⟨kV k, by rw [List.getElem?_set_ne (Ne.symm hjm)]; exact List.getElem?_set_self (by rw [wipe_length]; exact hjl), vv, List.getElem?_set_self (by rw [List.length_set, wipe_length]; exact hml), la.getD n 0, ys, by rw [hvv], .inl (sq_of (by rw [upd_ne haT]; exact hoa)), fun p hpn => ⟨sz_of (by show 2 ≤ 100000; decide), fun U hU => ?_⟩⟩
          have hpT : p ≠ T := fun y => by
            subst y
            rw [upd_same] at hpn
            cases hpn
          rw [upd_ne hpT] at hpn
          have hpd : p ≠ d := fun y => by
            subst y
            rw [hd2] at hpn
            cases hpn
          have hpz : p ≠ z := fun y => by
            subst y
            rw [hz2] at hpn
            cases hpn
          have hUp : U ≠ p := fun y => by
            rw [y, upd_same] at hU
            cases hU
          rw [upd_ne hUp] at hU
          have hUT : U ≠ T := fun y => by
            rw [y, upd_same] at hU
            cases hU
          rw [upd_ne hUT] at hU
          have hUd : U ≠ d := fun y => by
            subst y
            rw [hd2] at hU
            cases hU
          have hUz : U ≠ z := fun y => by
            subst y
            rw [hz2] at hU
            cases hU
          have hTu : upd H2 d (.dK kvs) T = none := by
            rw [upd_ne hTd]
            exact hT
          have E2T := E2.aside (o := .tup [kV k, vv]) (z := T) (ex_none E2.en.ef hTu) (ex_none E2.en.e0 hTu) (E2.free hTu) (E2.freeO hTu)
          have hHu : upd (upd H2 d (.dK kvs)) T (.tup [kV k, vv]) p = none := by
            rw [upd_ne hpT, upd_ne hpd]
            exact hpn
          have hFp := ex_none E2T.en.ef hHu
          have h0p := ex_none E2T.en.e0 hHu
          have hMp : updZ M (la2.zip ls) p = none := E2T.free hHu
          have hpla : p ∉ la2 := fun y => by
            obtain ⟨r, hr1, hr2⟩ := List.getElem_of_mem y
            have hat := updZ_at (M := M) (la := la2) (ls := ls.take la2.length) hnd (by rw [List.length_take]; omega) hr1
            have hzip : la2.zip (ls.take la2.length) = la2.zip ls := zip_take la2 ls
            rw [hzip, List.getD_eq_getElem?_getD, List.getElem?_eq_getElem hr1] at hat
            have hat2 : updZ M (la2.zip ls) (la2[r]'hr1) = some (.lst ((ls.take la2.length).getD r [])) := hat
            rw [hr2, hMp] at hat2
            cases hat2
          have hMp0 : M p = none := by
            rw [updZ_out (fun y => hpla (zip_fst_mem y))] at hMp
            exact hMp
          have E3 := E2T.grow (Ex.refl F') (Ex.new (o := .lst ys) hHu) (E2T.en.ef.trans (Ex.new hHu)) (Nw.refl F' _)
          have E4 := E3.new (n := .lst (ls.getD n [])) upd_same hFp h0p (fun j w hj hs => E2T.freeO hHu j w hj hs) (.lst rys)
          have hUu : upd (upd (upd H2 d (.dK kvs)) T (.tup [kV k, vv])) p (.lst ys) U = none := by
            rw [upd_ne hUp, upd_ne hUT, upd_ne hUd]
            exact hU
          have hFU := ex_none E4.en.ef hUu
          have eU : Ex F' (upd F' U (.tup [kV k, .ref p])) := Ex.new hFU
          have E5 := E4.grow eU (Ex.new hUu) (ex_upd_both E4.en.ef) (nw_upd hUu (Nw.refl F' _))
          have hlacc : acc.length = n := by
            rw [hracc.length, List.length_map, List.length_zip, List.length_take, List.length_map, List.length_map]
            omega
          have hlsn : ls[n]? = some (ls.getD n []) := by
            rw [List.getD_eq_getElem?_getD, List.getElem?_eq_getElem (by omega)]
            rfl
          refine ⟨acc, by rw [upd_ne hUz.symm, upd_ne hpz.symm, upd_ne hTz.symm]; exact hz2, sz_lt (by omega), upd F' U (.tup [kV k, .ref p]), la2 ++ [p], acc ++ [.ref U], ?_, e'.trans eU, by rw [upd_ne hUz.symm]; exact hFz', fun y => ?_, upd_same, ?_, by rw [List.length_append, hla2]; rfl, ?_, fun a ha => ?_, by rw [upd_ne hdz, upd_ne hUd.symm, upd_ne hpd.symm, upd_ne hTd.symm]; exact hd2⟩
          · rw [zip_snoc2 hlsn hla2, updZ_snoc (fun y => hpla (zip_fst_mem y)), upd_swap (a := z) (b := d) hdz.symm, upd_swap (a := U) (b := d) hUd, upd_swap (a := p) (b := d) hpd, upd_swap (a := T) (b := d) hTd]
            refine E5.aside (by rw [upd_ne hUz.symm]; exact hFz') h0z ?_ (fun j w hj hs => E.freeO hHz j w hj hs)
            rw [updM_ne hpz.symm, updZ_out (fun h => hzla (zip_fst_mem h))]
            exact E.free hHz
          · rcases List.mem_append.mp y with y | y
            · exact hzla y
            · exact hpz (List.mem_singleton.mp y).symm
          · have hke : (es.map fun p => p.1)[n]? = some k := by
              rw [← hk, List.getElem?_map, hk1]
              rfl
            have et : (es.map fun p => p.1).take (n + 1) = (es.map fun p => p.1).take n ++ [k] := by
              rw [List.take_succ, hke]
              rfl
            have ez : ((es.map fun p => p.1).take n ++ [k]).zip ((la2 ++ [p]).map D.ptr) = ((es.map fun p => p.1).take n).zip (la2.map D.ptr) ++ [(k, D.ptr p)] := by
              rw [List.map_append]
              exact List.zip_append (by rw [List.length_map, List.length_take, List.length_map]; omega)
            rw [et, ez, List.map_append]
            exact (hracc.mono eU).app (.cons (.tup upd_same (.cons (rp_key _) (.cons (.ptr p) .nil))) .nil)
          · exact List.nodup_append.mpr ⟨hnd, List.nodup_cons.mpr ⟨(fun h => nomatch h), List.nodup_nil⟩, fun a ha b hb => by
              rw [List.mem_singleton] at hb
              subst hb
              exact fun y => hpla (y ▸ ha)⟩
          · rcases List.mem_append.mp ha with y | y
            · exact hMl a y
            · rw [List.mem_singleton.mp y]
              exact hMp0
      · rintro H2 ⟨F', la2, acc, E2, e', hFz', hzla, hz2, hracc, hla2, hnd, hMl, hd2⟩
        rw [hlen, show es.length = (es.map fun p => p.1).length from (List.length_map ..).symm, List.take_length] at hracc
        have eD : Ex F' (upd F' z (.lst acc)) := Ex.new hFz'
        have hzz : upd H2 d (.dK kvs) z = some (.lst acc) := by
          rw [upd_ne hdz.symm]
          exact hz2
        refine ⟨hd2, q _ _ (hp la2 (by omega) hnd hMl) (.ref z) _ _ (E2.addF hFz' hzz h0z ?_ (fun j w hj hs => E.freeO hHz j w hj hs)) (e'.trans eD) (.lst upd_same (hracc.mono eD))⟩
        rw [updZ_out (fun h => hzla (zip_fst_mem h))]
        exact E.free hHz⟩
theorem Ro.opened {H0 F0 F H : Hp} {σ : L2.St} (E : Cy.En K H0 F0 F H σ G) {a : Addr} {o z : HO} {F2 H2 : Hp} (ha : F a = some o) (r : Ro (upd H a z) (upd F a z) F2 H2) : Ro H0 F0 (upd F2 a o) (upd H2 a o) where
  e0 := E.e0.trans fun b u h => by
    by_cases q : b = a
    · subst q
      rw [E.ef _ _ ha] at h
      rw [upd_same]
      exact h
    · rw [upd_ne q]
      exact r.e0 b u (by rw [upd_ne q]; exact h)
  ef := fun b u h => by
    by_cases q : b = a
    · subst q
      rw [upd_same] at h ⊢
      exact h
    · rw [upd_ne q] at h ⊢
      exact r.ef _ _ h
  e1 := E.e1.trans fun b u h => by
    by_cases q : b = a
    · subst q
      rw [ha] at h
      rw [upd_same]
      exact h
    · rw [upd_ne q]
      exact r.e1 b u (by rw [upd_ne q]; exact h)
  nf := fun b u h => by
    by_cases q : b = a
    · subst q
      rw [upd_same] at h
      exact E.nf _ _ (by rw [ha]; exact h)
    · rw [upd_ne q] at h
      rcases r.nf b u h with y | y
      · exact E.nf _ _ (by rw [upd_ne q] at y; exact y)
      · exact .inr (ex_none E.e0 (by rw [upd_ne q] at y; exact y))
def firstP (f : Key × D → Option D) : List (Key × D) → Option D
  | [] => none
  | p :: es => match f p with
    | some r => some r
    | none => firstP f es
theorem firstP_none {f : Key × D → Option D} : ∀ {es : List (Key × D)}, (∀ p ∈ es, f p = none) → firstP f es = none
  | [], _ => rfl
  | p :: es, h => by
    unfold firstP
    rw [h p List.mem_cons_self]
    exact firstP_none fun q hq => h q (List.mem_cons_of_mem _ hq)
theorem firstP_at {f : Key × D → Option D} {r : D} : ∀ {es : List (Key × D)} {n : Nat} {p : Key × D}, es[n]? = some p → f p = some r → (∀ m q, m < n → es[m]? = some q → f q = none) → firstP f es = some r
  | e :: es, 0, p, h, hf, _ => by
    have : e = p := by simpa using h
    subst this
    unfold firstP
    rw [hf]
  | e :: es, n + 1, p, h, hf, hb => by
    unfold firstP
    rw [hb 0 e (Nat.succ_pos _) rfl]
    exact firstP_at (n := n) (by simpa using h) hf fun m q hm hq => hb (m + 1) q (Nat.succ_lt_succ hm) (by simpa using hq)
theorem En.forget {H0 F0 F H : Hp} {σ : L2.St} (E : Cy.En K H0 F0 F H σ G1) (hl : G1.length = G'.length) (h : ∀ (i : Nat) (s : Sl), G'[i]? = some s → s = .no ∨ G1[i]? = some s) : Cy.En K H0 F0 F H σ G' where
  dat := fun i d q => by
    rcases h i _ q with y | y
    · cases y
    · exact E.dat i d y
  own := fun i u q => by
    rcases h i _ q with y | y
    · cases y
    · exact E.own i u y
  dis := fun i j li lj p hij q1 q2 => by
    rcases h i _ q1 with y | y
    · cases y
    · rcases h j _ q2 with z | z
      · cases z
      · exact E.dis i j li lj p hij y z
  e0 := E.e0
  ef := E.ef
  e1 := E.e1
  nf := E.nf
  len := by rw [E.len, hl]
theorem En.openedL {H0 F0 F H : Hp} {σ σ2 : L2.St} (E : Cy.En K H0 F0 F H σ G) (w : Lk G G') {a : Addr} {o z : HO} {F2 H2 : Hp} (ha : F a = some o) (hz : ∀ xs, z ≠ .lst xs ∧ z ≠ .tup xs) (E2 : Cy.En K (upd H a z) (upd F a z) F2 H2 σ2 G') : Cy.En K H0 F0 (upd F2 a o) (upd H2 a o) σ2 G' := by
  have r := Ro.opened E ha E2.ro
  have h2 : F2 a = some z := E2.e1 _ _ upd_same
  exact {
    dat := fun i d q => by
      rcases w.get q with y | ⟨d', q1, q2, _⟩
      · cases y
      · cases q1
        obtain ⟨v, k1, k2⟩ := E2.dat i d q
        exact ⟨v, k1, k2.beside (fun xs => ⟨(fun y => (hz xs).1 (by rw [h2] at y; exact Option.some.inj y)), (fun y => (hz xs).2 (by rw [h2] at y; exact Option.some.inj y))⟩) q2⟩
    own := fun i u q => by
      rcases w.get q with y | ⟨d', q1, _⟩
      · cases y
      · cases q1
    dis := fun i j li lj p _ q => by
      rcases w.get q with y | ⟨d', q1, _⟩
      · cases y
      · cases q1
    e0 := r.e0
    ef := r.ef
    e1 := r.e1
    nf := r.nf
    len := E2.len }
/-- for k, v in own[k0].items(): .. the first that is looked for -/
theorem st_forItems {i j m : Nat} {k0 : Str} {ds : List (Key × D)} (f : Key × D → Option D) (hjm : j ≠ m) (hx : G[i]? = some (.dat (.dic ds))) (hk0 : valE ds (.inr k0) = some (.dic es)) (hlst : ∀ p ∈ es, ∃ l, p.2 = .lst l ∧ plnA l = true) (w : Lk G G')
    (hnj : G'[j]? = some .no) (hnm : G'[m]? = some .no)
    (hb : ∀ p ∈ es, StD K tu ((G'.set j (.dat (keyD p.1))).set m (.dat p.2)) (match f p with | some r => .rt r | none => .nx ((G'.set j (.dat (keyD p.1))).set m (.dat p.2)))) (hr : ∀ p ∈ es, ∀ r, f p = some r → plnD r = true) :
    StD K (tLock (tFor (iItems (tDGet (tVar i) (tC (.str k0)))) (gTup K 2 (gCons (gName j) (gCons (gName m) gNil))) tu)) G (match firstP f es with | some r => .rt r | none => .nx G') := .mk fun {H0 F0 F H σ E} En p => by
  obtain ⟨v, hv, rv⟩ := En.dat i _ hx
  cases rv with
  | dic ho hno hro =>
    rename_i ow kvo
    obtain ⟨v', hv1, rv'⟩ := (valE_rp hno hro).1 _ hk0
    cases rv' with
    | dic hd hk hrd =>
      rename_i d kvs
      have hod : ow ≠ d := fun y => by
        subst y
        rw [ho] at hd
        cases hd
        cases q1 : valE es (.inr k0) with
        | none =>
          have := (valE_rp hk hrd).2 q1
          rw [hv1] at this
          cases this
        | some d' =>
          obtain ⟨v2, w1, w2⟩ := (valE_rp hk hrd).1 _ q1
          rw [hv1] at w1
          cases w1
          obtain ⟨p', hp1, hp2⟩ := List.mem_map.mp (valE_mem q1)
          obtain ⟨l, hl1, _⟩ := hlst p' hp1
          rw [← hp2, hl1] at w2
          cases w2 with
          | lst hbad _ =>
            rw [ho] at hbad
            cases hbad
      refine ⟨d, _, En.ef _ _ hd, trivial, fun od => ?_⟩
      have hN : ∀ xs, (HO.dK kvs) ≠ .lst xs ∧ (HO.dK kvs) ≠ .tup xs := fun xs => ⟨(fun y => nomatch y), (fun y => nomatch y)⟩
      have hZ : ∀ xs, (HO.frz od (.dK kvs)) ≠ .lst xs ∧ (HO.frz od (.dK kvs)) ≠ .tup xs := fun xs => ⟨(fun y => nomatch y), (fun y => nomatch y)⟩
      have hNF : ∀ xs, F d ≠ some (.lst xs) ∧ F d ≠ some (.tup xs) := fun xs => ⟨(fun y => by rw [hd] at y; cases y), (fun y => by rw [hd] at y; cases y)⟩
      have EL := Cy.En.locked (z := .frz od (.dK kvs)) En w hd hN
      have hpl : ∀ p ∈ es, plnD p.2 = true := fun p hp => by
        obtain ⟨l, h1, h2⟩ := hlst p hp
        rw [h1]
        unfold plnD
        exact h2
      have hr' : RpA K (upd F d (.frz od (.dK kvs))) (kvs.map fun p => p.2) (es.map fun p => p.2) := hrd.beside hNF (plnA_of fun dd hdd => by
        obtain ⟨p, hp1, rfl⟩ := List.mem_map.mp hdd
        exact hpl p hp1)
      have wk := wk_items (od := od) (F := upd F d (.frz od (.dK kvs))) upd_same hk hr'
      obtain ⟨Gp, Y, wlk, hg, hy⟩ := wk.ex
      have hget : DGet (upd H d (.frz od (.dK kvs))) ow (kV (.inr k0)) (valV kvo (.inr k0)) := DGet.k (by rw [upd_ne hod]; exact En.ef _ _ ho)
      rw [hv1] at hget
      unfold tFor iItems
      refine ⟨.ref ow, hv, ow, .ref d, rfl, hget, d, od, kvs, rfl, upd_same, ?_⟩
      refine for_it wlk (fun n σ' H' => ∃ F' : Hp, Cy.En K (upd H d (.frz od (.dK kvs))) (upd F d (.frz od (.dK kvs))) F' H' σ' G' ∧ Ex (upd F d (.frz od (.dK kvs))) F' ∧ ∀ r q, r < n → es[r]? = some q → f q = none) ⟨_, EL, Ex.refl _, fun r q h => absurd h (Nat.not_lt_zero _)⟩ (fun n σ' H' _ ⟨F', E', e', _⟩ => hg H' (e'.trans E'.ef)) ?_ ?_
      · rintro n x σ2 H2 H3 hlt ⟨F', E', e', hf⟩ y
        obtain ⟨F2, dd, k1, k2, k3, k4, hd2, r2⟩ := hy n H2 x H3 F' e' E'.ef y
        have E3 := E'.grow k1 k2 k3 k4
        obtain ⟨p', hp1, hp2⟩ : ∃ p', es[n]? = some p' ∧ dd = itemD p' := by
          rw [List.getElem?_map] at hd2
          cases q : es[n]? with
          | none =>
            rw [q] at hd2
            cases hd2
          | some p' =>
            rw [q] at hd2
            cases hd2
            exact ⟨p', rfl, rfl⟩
        subst hp2
        have hmem : p' ∈ es := by
          obtain ⟨h1, h2⟩ := List.getElem?_eq_some_iff.mp hp1
          exact h2 ▸ List.getElem_mem h1
        refine (g_tup (ds := [keyD p'.1, p'.2]) (gs_cons g_name (gs_cons g_name gs_nil)) rfl) E3 r2 _ fun σ4 E4 => ?_
        refine hb p' hmem E4 ?_
        cases hfp : f p' with
        | none =>
          exact fun σ5 F5 H5 E5 f5 => ⟨F5, E5.forget (by rw [List.length_set, List.length_set]) (fun a s hs => by
            by_cases ha : a = j
            · subst ha
              rw [hnj] at hs
              exact .inl (Option.some.inj hs).symm
            · by_cases hb2 : a = m
              · subst hb2
                rw [hnm] at hs
                exact .inl (Option.some.inj hs).symm
              · rw [List.getElem?_set_ne (Ne.symm hb2), List.getElem?_set_ne (Ne.symm ha)]
                exact .inr hs), (e'.trans k1).trans f5, fun r q hrn hq => by
            rcases Nat.lt_or_ge r n with z | z
            · exact hf r q z hq
            · have : r = n := by omega
              subst this
              rw [hp1] at hq
              cases hq
              exact hfp⟩
        | some r =>
          have e := firstP_at hp1 hfp hf
          rw [e] at p
          exact fun v F5 H5 ro rr => ⟨ro.e0 _ _ upd_same, p v _ _ (Ro.opened En hd ro) (rr.beside (fun xs => ⟨(fun y => (hZ xs).1 (by rw [ro.e1 _ _ upd_same] at y; exact Option.some.inj y)), (fun y => (hZ xs).2 (by rw [ro.e1 _ _ upd_same] at y; exact Option.some.inj y))⟩) (hr p' hmem r hfp))⟩
      · rintro σ2 H2 ⟨F', E', e', hf⟩
        have e : firstP f es = none := firstP_none fun q hq => by
          obtain ⟨n, hn1, hn2⟩ := List.getElem_of_mem hq
          exact hf n q (by rw [List.length_map]; exact hn1) (by rw [List.getElem?_eq_getElem hn1, hn2])
        rw [e] at p
        refine ⟨E'.e0 _ _ upd_same, p σ2 _ _ (En.openedL w hd hZ E') fun b u h => ?_⟩
        by_cases q : b = d
        · subst q
          rw [hd] at h
          rw [upd_same]
          exact h
        · rw [upd_ne q]
          exact e' b u (by rw [upd_ne q]; exact h)
end
end Cy

set_option Elab.async false
set_option linter.all false
set_option maxRecDepth 100000
set_option maxHeartbeats 4000000
namespace Cy
open PySem PySem.Spec PyProof.Rows L2 Evl
mutual
/-- no list in it -/
def nlD : D → Bool
  | .lst _ => false
  | .tup xs => nlA xs
  | .dic es => nlK es
  | .obj _ _ => false
  | .exc _ => false
  | .scr _ => false
  | _ => true
def nlA : List D → Bool
  | [] => true
  | x :: xs => nlD x && nlA xs
def nlK : List (Key × D) → Bool
  | [] => true
  | (_, x) :: es => nlD x && nlK es
end
theorem nlK_map : ∀ es : List (Key × D), nlK es = nlA (es.map fun p => p.2)
  | [] => by
    unfold nlK
    rw [List.map_nil]
    unfold nlA
    rfl
  | (s, x) :: es => by
    unfold nlK
    rw [List.map_cons]
    unfold nlA
    rw [nlK_map es]
theorem nlA_of : ∀ {l : List D}, (∀ d ∈ l, nlD d = true) → nlA l = true
  | [], _ => by
    unfold nlA
    rfl
  | x :: xs, h => by
    unfold nlA
    rw [h x List.mem_cons_self, nlA_of fun d hd => h d (List.mem_cons_of_mem _ hd)]
    rfl
section
variable {K : PySem.W.Frag}
mutual
theorem Rp.hid2 {F : Hp} {p : Addr} {xs : List V} (hp : F p = some (.lst xs)) : ∀ {v : V} {d : D}, Rp K F v d → nlD d = true → Rp K (hid F p) v d
  | _, _, .non, _ => .non
  | _, _, .bl b, _ => .bl b
  | _, _, .int i, _ => .int i
  | _, _, .str x, _ => .str x
  | _, .tup ds, .tup h r, q => .tup (by
      rw [hid_ne (fun z => by subst z; rw [hp] at h; cases h)]
      exact h) (RpA.hid2 hp r (by unfold nlD at q; exact q))
  | _, .lst _, .lst _ _, q => by unfold nlD at q; cases q
  | _, .dic es, .dic h r1 r2, q => .dic (by
      rw [hid_ne (fun z => by subst z; rw [hp] at h; cases h)]
      exact h) r1 (RpA.hid2 hp r2 (by unfold nlD at q; rw [nlK_map] at q; exact q))
  | _, .obj C fs, .obj h1 h2 r, q => by unfold nlD at q; cases q
  | _, .exc _, .exc _, q => by unfold nlD at q; cases q
  | _, .ptr _, .ptr a, _ => .ptr a
  | _, .scr _, .scr _, q => by unfold nlD at q; cases q
theorem RpA.hid2 {F : Hp} {p : Addr} {xs : List V} (hp : F p = some (.lst xs)) : ∀ {vs : List V} {ds : List D}, RpA K F vs ds → nlA ds = true → RpA K (hid F p) vs ds
  | _, _, .nil, _ => .nil
  | _, d :: ds, .cons r t, q => by
    unfold nlA at q
    rw [Bool.and_eq_true] at q
    exact .cons (Rp.hid2 hp r q.1) (RpA.hid2 hp t q.2)
end
end
def nlN : Nd → Bool
  | .lst l => nlA l
  | .dic es => nlA (es.map fun p => p.2)
  | .ins _ fs => nlA (fs.map fun p => p.2)
theorem BearN.hid2 {K : PySem.W.Frag} {F : Hp} {p : Addr} {xs : List V} (hp : F p = some (.lst xs)) {o : HO} {n : Nd} (h : BearN K F o n) (q : nlN n = true) : BearN K (hid F p) o n := by
  cases h with
  | lst r => exact .lst (r.hid2 hp q)
  | dic k r => exact .dic k (r.hid2 hp q)
  | ins k r => exact .ins k (r.hid2 hp q)
section
variable {K : PySem.W.Frag} {M M1 M2 : Sto} {G G' G1 : List Sl} {te td ty tv tb to tx : TE} {ta tr : TA} {t u : TT} {tu tw tz : TS} {d a b c : D} {ds l : List D} {X : XK} {P P1 : Out → Sto → Prop} {R R1 : Res → Sto → Prop} {o : Out} {g : TG} {C : Addr} {es : List (Key × D)}
/-- x = C(xs), xs an own list that is changed later -/
theorem m_lendMake {Rel : RelI} {i j : Nat} (hij : i ≠ j) (hi : G[i]? = some (.own (.lst l))) (hone : ∀ n w, n ≠ i → G[n]? ≠ some (.own w)) (hj : ∀ w, G[j]? ≠ some (.own w))
    (hR : ∀ x, M x = none → ∃ Pr : Res → Sto → Prop, Rel x [.lst l] M Pr ∧ (∀ d M', Pr (.ok d) M' → ∃ M'' : Sto, (∀ a n, M'' a = some n → M' a = some n ∧ nlN n = true) ∧ P (.nx (G.set j (.dat (.ptr x)))) M'') ∧ ∀ C M', ¬ Pr (.exc C) M') :
    StM K (tAsg (tMake C (spMI K C Rel) [] X (tCons (tVar i) tNil)) (gName j)) M G P := ⟨fun {H0 F0 F H σ E} En pp => by
  obtain ⟨p, o, k1, k2, k3, k4, k5⟩ := En.en.own i _ hi
  cases k5 with
  | lst rxs =>
    rename_i xs
    refine ⟨.ref p, k1, fun x dx hx hdx hne => ?_⟩
    obtain ⟨Pr, z1, z2, z3⟩ := hR x (En.free hx)
    have eF : Ex F (upd F p (.lst xs)) := Ex.new k2
    have efF : Ex (upd F p (.lst xs)) H := fun a u q => by
      by_cases ha : a = p
      · subst ha
        rw [upd_same] at q
        cases q
        exact k4
      · rw [upd_ne ha] at q
        exact En.en.ef _ _ q
    have hMp : M p = none := En.ow i _ p hi k1
    have st1 : Cells K (upd F p (.lst xs)) M H := fun a n q => by
      obtain ⟨w1, w2, w3, w4⟩ := En.st a n q
      have ha : a ≠ p := fun y => by
        subst y
        rw [hMp] at q
        cases q
      exact ⟨by rw [upd_ne ha]; exact w1, w2, w3, w4.mono eF⟩
    refine ⟨upd F p (.lst xs), H, x, dx, [.ref p] ++ [], [.lst l], M, Pr, rfl, rfl, hx, hdx, hne, efF, .cons (.lst upd_same (rxs.mono eF)) .nil, st1, z1, fun r M' q => ?_⟩
    cases r with
    | exc C => exact absurd q (z3 C M')
    | ok d =>
      refine fun F2 H2 ro => ⟨rfl, ?_⟩
      obtain ⟨M'', w1, w2⟩ := z2 d M' q
      have hF2p : F2 p = some (.lst xs) := ro.ro.e1 p _ upd_same
      have hF3p : hid F2 p p = none := if_pos rfl
      have eF3 : Ex F (hid F2 p) := fun a u h => by
        have ha : a ≠ p := fun y => by
          subst y
          rw [k2] at h
          cases h
        rw [hid_ne ha]
        exact ro.ro.e1 a u (by rw [upd_ne ha]; exact h)
      have F3le : ∀ a u, hid F2 p a = some u → a ≠ p ∧ F2 a = some u := fun a u h => by
        have ha : a ≠ p := fun y => by
          subst y
          rw [hF3p] at h
          cases h
        rw [hid_ne ha] at h
        exact ⟨ha, h⟩
      have hM0 : ∀ a u, H0 a = some u → M a = none := fun a u h => by
        cases y : M a with
        | none => rfl
        | some n =>
          rw [En.h0 a n y] at h
          cases h
      have un0 : ∀ a, unseen M H a = none → H0 a = none := fun a h => by
        cases y : H0 a with
        | none => rfl
        | some u =>
          rw [unseen_none (hM0 a u y), En.en.e0 a u y] at h
          cases h
      have E3 : EnM K H0 F0 (hid F2 p) M'' H2 σ G := {
        en := {
          dat := fun n d h => by
            obtain ⟨v, a1, a2⟩ := En.en.dat n d h
            exact ⟨v, a1, a2.mono eF3⟩
          own := fun n w h => by
            by_cases hn : n = i
            · subst hn
              rw [hi] at h
              cases h
              exact ⟨p, .lst xs, k1, hF3p, k3, ro.ro.ef _ _ hF2p, .lst (rxs.mono eF3)⟩
            · exact absurd h (hone n w hn)
          dis := En.en.dis
          e0 := fun a u h => ro.ro.e0 a u (by rw [unseen_none (hM0 a u h)]; exact En.en.e0 a u h)
          ef := fun a u h => ro.ro.ef _ _ (F3le a u h).2
          e1 := En.en.e1.trans eF3
          nf := fun a u h => by
            obtain ⟨ha, h2⟩ := F3le a u h
            rcases ro.ro.nf a u h2 with y | y
            · rw [upd_ne ha] at y
              exact En.en.nf a u y
            · exact .inr (un0 a y)
          len := En.en.len }
        st := fun a n h => by
          obtain ⟨h1, h2⟩ := w1 a n h
          obtain ⟨c1, c2, c3, c4⟩ := ro.st a n h1
          refine ⟨?_, c2, c3, c4.hid2 hF2p h2⟩
          by_cases ha : a = p
          · rw [ha]
            exact hF3p
          · rw [hid_ne ha]
            exact c1
        h0 := fun a n h => un0 a (ro.h0 a n (w1 a n h).1)
        ow := fun n w p' h hs => by
          by_cases hn : n = i
          · subst hn
            rw [k1] at hs
            cases hs
            cases y : M'' p with
            | none => rfl
            | some nn =>
              have := (ro.st p nn (w1 p nn y).1).1
              rw [hF2p] at this
              cases this
          · exact absurd h (hone n w hn) }
      unfold gName
      exact pp _ _ w2 _ _ H2 (E3.setD (.ptr x) j) eF3⟩
/-- xs.append(e), xs an own list, e changes the store -/
theorem m_appO {i : Nat} (h : G[i]? = some (.own (.lst l))) (he : EvM K te X M G R1) (hz : l.length < 100000) (hp : ∀ d M', R1 (.ok d) M' → P (.nx (G.set i (.own (.lst (l ++ [d]))))) M') (hx : ∀ C M', ¬ R1 (.exc C) M') : StM K (tDrop (tBM K "list" rAppend (tVar i) (tCons te tNil))) M G P := ⟨fun {H0 F0 F H σ E} En pp => by
  unfold tDrop tBM
  exact e_own h En.en fun q xs hq hH hF hr => ⟨Or.inl ⟨rfl, xs, sq_of hH⟩, he.run En _ (fun d M' k v F1 H1 E1 f1 r1 => by
    obtain ⟨q2, o2, a1, a2, a3, a4, a5⟩ := E1.en.own i _ h
    rw [hq] at a1
    cases a1
    cases a5 with
    | lst r5 =>
      rename_i xs2
      refine ⟨q, xs2, v, rfl, rfl, a4, sz_lt (by rw [r5.length]; exact hz), ?_⟩
      have hMq := E1.ow i _ q h hq
      have em := E1.en.mut h hq (l' := .lst (l ++ [d])) (.lst (r5.app (.cons r1 .nil)))
      refine pp _ _ (hp d M' k) σ F1 _ ⟨em, fun a n hm => ?_, E1.h0, fun n w p2 h1 h2 => ?_⟩ f1
      · obtain ⟨c1, c2, c3, c4⟩ := E1.st a n hm
        have ha : a ≠ q := fun y => by
          subst y
          rw [hMq] at hm
          cases hm
        exact ⟨c1, c2, by rw [upd_ne ha]; exact c3, c4⟩
      · by_cases hn : i = n
        · subst hn
          rw [hq] at h2
          cases h2
          exact hMq
        · rw [List.getElem?_set_ne hn] at h1
          exact E1.ow n w p2 h1 h2) fun C M' k => absurd k (hx C M')⟩⟩
/-- an own list stays as it is from here on -/
theorem m_freezeO {i : Nat} (h : G[i]? = some (.own (.lst l))) (hs : StM K tu M (G.set i (.dat (.lst l))) P) : StM K tu M G P := ⟨fun {H0 F0 F H σ E} En p => by
  obtain ⟨q, xs, hF, hH, E1⟩ := En.en.freezeL h
  obtain ⟨q2, o2, a1, a2, a3, a4, a5⟩ := En.en.own i _ h
  have eF : Ex F (upd F q (.lst xs)) := Ex.new hF
  have hl : i < G.length := (List.getElem?_eq_some_iff.mp h).1
  obtain ⟨v, b1, b2⟩ := E1.dat i (.lst l) (List.getElem?_set_self hl)
  rw [a1] at b1
  cases b1
  have hq : q2 = q := by
    cases b2 with
    | lst h2 _ =>
      by_cases e : q2 = q
      · exact e
      · rw [upd_ne e, a2] at h2
        cases h2
  subst hq
  have hM := En.ow i _ q2 h a1
  exact hs.run (F := upd F q2 (.lst xs)) ⟨E1, fun a n hm => by
    obtain ⟨c1, c2, c3, c4⟩ := En.st a n hm
    have ha : a ≠ q2 := fun y => by
      subst y
      rw [hM] at hm
      cases hm
    exact ⟨by rw [upd_ne ha]; exact c1, c2, c3, c4.mono eF⟩, En.h0, fun n w p2 h1 h2 => by
    by_cases hn : i = n
    · subst hn
      rw [List.getElem?_set_self hl] at h1
      cases h1
    · rw [List.getElem?_set_ne hn] at h1
      exact En.ow n w p2 h1 h2⟩ fun o M' q => (p o M' q).weak eF⟩
/-- o.m(..) that hands back a new list -/
theorem o_methO {C : Addr} {fs : List (Str × D)} {m : Str} {R : List D → List D → Prop} {E : XK} {ta : TE} {tr : TA} (h : EvD K ta G (.obj C fs)) (hm : fs.lookup m = none) (hr : EvS K tr G ds) (hR : R (.obj C fs :: ds) l) : EvO K (tMeth C m (spO K R) [] E ta tr) G l := .mk fun {H0 F0 F H σ} En Q q => h En _ fun v F1 H1 E1 f1 g1 n1 r1 => by
  have r1' := r1
  cases r1' with
  | obj h1 h2 h3 =>
    refine ⟨_, _, _, rfl, E1.ef _ _ h1, lookup_none h2 hm, hr E1 _ fun vs F2 H2 E2 f2 g2 n2 r2 => ?_⟩
    refine ⟨F2, .obj C fs :: ds, l, E2.ef, by rw [List.append_nil]; exact .cons (r1.mono f2) r2, hR, fun p xs F3 H3 ro hp hf hh r3 => ?_⟩
    exact q p xs F3 H3 (E2.grow ro.e1 ro.e0 ro.ef ro.nf) ((f1.trans f2).trans ro.e1) ((g1.trans g2).trans ro.e0) ((n1.trans n2 g1).trans ro.nf (g1.trans g2)) (ex_none (g1.trans g2) hp) hf hh r3
/-- x, y = .., .., new lists both -/
theorem st_parO {i j : Nat} {l m : List D} (hij : i ≠ j) (hone : ∀ (n : Nat) (w : Ow), G[n]? ≠ some (Sl.own w)) (h1 : EvO K te G l) (h2 : EvO K tb G m) : StD K (tPar i j (tCons te (tCons tb tNil))) G (.nx ((G.set i (.own (.lst l))).set j (.own (.lst m)))) := .mk fun {H0 F0 F H σ E} En p =>
  h1 En _ fun p1 xs F1 H1 E1 f1 g1 n1 hp1 hf1 hh1 r1 => h2 E1 _ fun p2 ys F2 H2 E2 f2 g2 n2 hp2 hf2 hh2 r2 => by
    have hF2 : F2 p1 = none := by
      cases z : F2 p1 with
      | none => rfl
      | some o =>
        rcases n2 p1 o z with y | y
        · rw [hf1] at y
          cases y
        · rw [hh1] at y
          cases y
    have hne : p1 ≠ p2 := fun y => by
      rw [← y, hh1] at hp2
      cases hp2
    have Ea := E2.setO hF2 (ex_none En.e0 hp1) (g2 _ _ hh1) (.lst (r1.mono f2)) i fun n w hn _ hs => absurd hn (hone n w)
    have Eb := Ea.setO hf2 (ex_none E1.e0 hp2) hh2 (.lst r2) j fun n w hn _ hs => by
      by_cases hni : i = n
      · subst hni
        have hl : i < σ.length := by
          have := (List.getElem?_eq_some_iff.mp hs).1
          rw [List.length_set] at this
          exact this
        rw [List.getElem?_set_self hl] at hs
        exact hne (V.ref.inj (Option.some.inj (Option.some.inj hs)))
      · rw [List.getElem?_set_ne hni] at hn
        exact hone n w hn
    exact ⟨.ref p1, .ref p2, rfl, p _ F2 H2 Eb (f1.trans f2)⟩
theorem EnM.less {H0 F0 F H : Hp} {σ : L2.St} (E : EnM K H0 F0 F M H σ G) (h : ∀ a n, M1 a = some n → M a = some n) : EnM K H0 F0 F M1 H σ G :=
  ⟨E.en, fun a n q => E.st a n (h a n q), fun a n q => E.h0 a n (h a n q), fun i w p h1 h2 => by
    cases y : M1 p with
    | none => rfl
    | some n =>
      have := E.ow i w p h1 h2
      rw [h p n y] at this
      cases this⟩
def lessM (M : Sto) (p : Addr) : Sto := fun a => if a = p then none else M a
theorem lessM_ne {M : Sto} {a p : Addr} (h : a ≠ p) : lessM M p a = M a := if_neg h
/-- {k1: x, k2: ..}: the second one changes the store -/
theorem e_mdisp2 {t1 t2 : TE} {k1 k2 : Str} {d1 : D} {R1 : Addr → Res → Sto → Prop} (hk : k1 ≠ k2) (h1 : EvD K t1 G d1) (h2 : ∀ p, M p = none → EvM K t2 X (updM M p (.dic [])) G (R1 p)) (hp : ∀ p d2 M', M p = none → R1 p (.ok d2) M' → M' p = some (.dic []) ∧ R (.ok (.dic [(.inr k1, d1), (.inr k2, d2)])) (lessM M' p)) (hx : ∀ p C M', ¬ R1 p (.exc C) M') : EvM K (tDisp (((tC (.str k1)), t1) :: ((tC (.str k2)), t2) :: [])) X M G R := ⟨fun {H0 F0 F H σ} E Q q qx => fun z hz => by
  have hMz := E.free hz
  have E1 := (E.grow (Ex.refl F) (Ex.new (o := .dK []) hz) (E.en.ef.trans (Ex.new hz)) (Nw.refl F H)).new (n := .dic []) upd_same (ex_none E.en.ef hz) (ex_none E.en.e0 hz) (fun i w hj hs => E.freeO hz i w hj hs) (.dic rfl .nil)
  unfold tPairs
  refine h1 E1.en _ fun v F2 H2 E2 f2 g2 n2 r2 => ?_
  have E2' := E1.withG E2 f2 g2 n2
  unfold tPairs
  refine (h2 z hMz).run E2' _ (fun d2 M' k w F3 H3 E3 f3 r3 => ?_) fun C M' k => absurd k (hx z C M')
  obtain ⟨c0, c1⟩ := hp z d2 M' hMz k
  obtain ⟨b1, b2, b3, b4⟩ := E3.st z _ c0
  cases b4 with
  | dic kn kr =>
    rename_i kvs0
    have hk0 : kvs0 = [] := by
      cases kvs0 with
      | nil => rfl
      | cons a l => cases kn
    subst hk0
    unfold tPairs
    refine ⟨b3, [(.inr k1, v), (.inr k2, w)], rfl, by show 2 ≤ 15; decide, ?_⟩
    have hm : mergeK [] [((.inr k1 : Key), v), (.inr k2, w)] = [(.inr k1, v), (.inr k2, w)] := mergeK_nodup (acc := []) (by
      show [(Sum.inr k1 : Key), .inr k2].Nodup
      refine List.nodup_cons.mpr ⟨fun h => ?_, List.nodup_cons.mpr ⟨(fun h => nomatch h), List.nodup_nil⟩⟩
      exact hk (Sum.inr.inj (List.mem_singleton.mp h)))
    rw [hm]
    have E4 := E3.less (M1 := lessM M' z) fun a n h => by
      by_cases ha : a = z
      · subst ha
        unfold lessM at h
        rw [if_pos rfl] at h
        cases h
      · rw [lessM_ne ha] at h
        exact h
    have hMz4 : lessM M' z z = none := if_pos rfl
    have h0z := E3.h0 z _ c0
    have how : ∀ (i : Nat) (w : Ow), G[i]? = some (.own w) → σ[i]? ≠ some (some (.ref z)) := fun i w hi hs => by
      have := E3.ow i w z hi hs
      rw [c0] at this
      cases this
    have E5 := E4.aside (o := .dK [(.inr k1, v), (.inr k2, w)]) b1 h0z hMz4 how
    have eD : Ex F3 (upd F3 z (.dK [(.inr k1, v), (.inr k2, w)])) := Ex.new b1
    exact q _ _ c1 (.ref z) _ _ (E5.addF b1 upd_same h0z hMz4 how) ((f2.trans f3).trans eD) (.dic upd_same rfl (.cons ((r2.mono f3).mono eD) (.cons (r3.mono eD) .nil)))⟩
end
end Cy

set_option Elab.async false
set_option linter.all false
set_option maxRecDepth 100000
set_option maxHeartbeats 4000000
namespace Cy
open PySem PySem.Spec PyProof.Rows L2 Evl
/-! text * 0, text * 1 -/
def rRepS : R2 := fun x y H Q => ∃ z k, x = .str z ∧ y = .int k ∧ (k = 0 ∨ k = 1) ∧ Q (.str (if k = 1 then z else Str.empty)) H
theorem op_repS {X : Cx} : OpR X (binaryOp .Mult) rRepS := by
  intro pins s σ H x y v u Q I rx ry h
  obtain ⟨z, k, rfl, rfl, hk, q⟩ := h
  obtain ⟨t, rfl⟩ := rx
  obtain ⟨t', rfl⟩ := ry
  have e : Txt.mul z k = if k = 1 then z else Str.empty := by
    rcases hk with rfl | rfl
    · rfl
    · rfl
  refine SB.mul ?_ fun t2 tk => ⟨.str (if k = 1 then z else Str.empty), H, I.tok _, ⟨_, by rw [e]⟩, q⟩
  rcases hk with rfl | rfl
  · exact ⟨by decide, fun h => absurd (by decide : (0 : Int) < 1) h, fun h => absurd (by decide : (0 : Int) < 1) h⟩
  · exact ⟨by decide, fun _ h => by simp at h, fun _ h => by simp at h⟩
def gMulS : R2 := orR gMul rRepS
theorem op_gMulS {X : Cx} : OpR X (binaryOp .Mult) gMulS := op_gMul.or op_repS
theorem d_repS {K : PySem.W.Frag} {z : Str} {k : Int} (h : k = 0 ∨ k = 1) : Op2 K gMulS (.str z) (.int k) (.str (if k = 1 then z else Str.empty)) := op2_r (op2_v fun {F H x y} e r1 r2 => ⟨.str _, .str _, fun Q q => ⟨z, k, rp_str r1, rp_int r2, h, q⟩⟩)
def tListVals (td : TE) : TE := fun σ H Q => td σ H fun x H1 => ∃ a kvs, x = V.ref a ∧ H1 a = some (.dK kvs) ∧ ∀ p, H1 p = none → Q (.ref p) (upd H1 p (.lst (kvs.map fun q => q.2)))
theorem kv_snd {κ : Type} {kvs : List (κ × V)} {vs : List (κ × Value)} (r : KV kvs vs) : Vals (kvs.map fun q => q.2) (vs.map fun q => q.2) := by
  unfold KV at r
  induction r with
  | nil => exact .nil
  | cons h _ ih => exact .cons h.2 ih
theorem pe_listVals {X : Cx} {o : Expr} {td : TE} {p apos mpos pos : Pos} (hc : X.calm = true) (hg : Gl X "list") (hm : X.mg "list" = none) (hd : PE X o td) (h1 : attributeBase o "values" X.env (eval o X.env) = eval o X.env := by rfl) (h2 : (apos.endLine == mpos.line) = true := by rfl)
    (h3 : starEach [Expr.Call (.Attribute o "values" apos) [] [] mpos] X.env = [(false, eval (Expr.Call (.Attribute o "values" apos) [] [] mpos) X.env)] := by rfl) : PE X (.Call (.Name "list" p) [.Call (.Attribute o "values" apos) [] [] mpos] [] pos) (tListVals td) := ⟨fun pins s σ H Q I z => by
  refine wpAny_Call_Name_kw (ld_blt I hg hm (u := .type "list") (by rfl) ?_)
  rw [h3]
  refine PySem.callWith_type1 (wpAny_Call_method0_late h1 h2 (thn (hd.run pins s σ H _ I z) ?_))
  rintro v s1 ⟨_, H1, I1, r1, a, kvs, rfl, ha, q⟩
  obtain rfl : v = Value.ref a := r1
  obtain ⟨hz, hsys, vs, rel, dof⟩ := dk_of I1.hok ha
  obtain ⟨ep, dat⟩ := dof.dictAt
  obtain ⟨ob, es, ho, ex, _⟩ := id dat
  have ho0 := ho
  refine ⟨"dict", "dict.values", PySem.F.plainAttrs_dict, PySem.F.slot_dict_values, PySem.F.type_dict_values, ⟨ob, ho, ex.1⟩, fun b e => (by cases e; exact ⟨ob, ho0, ex.2.1⟩), Calls.callWith_builtin rfl (PySem.evalArgs_none (call_meetsIn PySem.F.slot_dict_values ⟨ob, ho, ex.1⟩ PySem.F.entry_dict_values (PySem.F.args_dict_values_1 _) (meets_dict_values (mixKind X.prog X.w) a hsys) ⟨⟨vs, dof⟩, ?_⟩))⟩
  have up : ∀ b u, s1.heap.get? b = some u → (s1.heap.push { cls := .type "dict_values", data := .fields #[.ref a] }).get? b = some u := fun b u e => Heap.get?_push_of_some _ e
  have hl := rel.length
  refine PySem.W.kdl_call (PySem.W.kdl_values (knd := mixKind X.prog X.w) (kvs := vs) (ep := ep) (r := s1.heap.objs.size) (d := a)) (I.ok.hd hc) ⟨⟨_, Heap.get?_push_size _ rfl, rfl, rfl⟩, dat.keep up⟩ (by omega) fun h' tk acc c hk hat hit => ?_
  have hs : (s1.heap.push { cls := .type "dict_values", data := .fields #[.ref a] }).objs.size = s1.heap.objs.size + 1 := Heap.size_push _ _
  have hv : acc.toList = vs.map fun q => q.2 := PySem.W.kdl_vals_eq acc.toList (by rw [Array.length_toList]; exact hit.1) fun j v e => hit.2 j v (by rw [← Array.getElem?_toList]; exact e)
  have hfresh : s1.heap.objs.size ≤ (s1.heap.push { cls := .type "dict_values", data := .fields #[.ref a] }).objs.size := by omega
  refine ⟨.ref _, _, I1.laid (t' := tk) (fun b u e => hk b u (up b u e)) hfresh (show ObjOk X.prog X.w _ h' _ (.lst (kvs.map fun q => q.2)) from ⟨by rw [List.length_map]; exact hz, acc.toList, c, by rw [hv]; exact kv_snd rel, by rw [Array.toArray_toList]; exact hat⟩), rfl, q _ (I1.hok.fresh hfresh)⟩⟩
end Cy

set_option Elab.async false
set_option linter.all false
set_option maxRecDepth 100000
set_option maxHeartbeats 4000000
namespace L07
open PySem
open L2 hiding rLen
open Evl Cy TL
/-! names, numbers -/
theorem le_sign (a c : Nat) : (!decide (([c] : List Nat) < [a])) = decide (a ≤ c) := by
  by_cases h : c < a
  · rw [decide_eq_true (List.cons_lt_cons_iff.mpr (Or.inl h)), decide_eq_false (by omega)]
    rfl
  · have h2 : ¬ (([c] : List Nat) < [a]) := fun q => by
      rcases List.cons_lt_cons_iff.mp q with z | ⟨_, z⟩
      · exact h z
      · exact absurd z (List.not_lt_nil _)
    rw [decide_eq_false h2, decide_eq_true (by omega)]
    rfl
def letter (c : Nat) : Bool := decide (97 ≤ c) && decide (c ≤ 122)
def nmS (z : Str) : Bool := decide (1 ≤ z.length ∧ z.length ≤ 8) && z.cps.toList.all letter
def isName : D → Bool
  | .str z => nmS z
  | _ => false
/-- a thing that is handed in -/
structure Thing (d : D) : Prop where
  sh : shOk d = true
  sz : ∀ s, d = .str s → s.length ≤ 1000
theorem sh_no {d : D} (h : shOk d = true) : noObj d = true := by
  cases d <;> first | rfl | (unfold shOk at h; cases h)
theorem thing_int {i : Int} : Thing (.int i) := ⟨rfl, fun s h => nomatch h⟩
theorem thing_str {z : Str} (h : z.length ≤ 1000) : Thing (.str z) := ⟨rfl, fun s e => by cases e; exact h⟩
theorem nm_short {z : Str} (h : nmS z = true) : 1 ≤ z.length ∧ z.length ≤ 8 := by
  unfold nmS at h
  rw [Bool.and_eq_true, decide_eq_true_iff] at h
  exact h.1
theorem thing_nm {z : Str} (h : nmS z = true) : Thing (.str z) := thing_str (by have := nm_short h; omega)
def amongI : D → Int → Int → Bool
  | .int i, a, b => decide (a ≤ i) && decide (i ≤ b)
  | _, _, _ => false
theorem among_yes {i a b : Int} (h : a ≤ i ∧ i ≤ b) : amongI (.int i) a b = true := by
  show (decide (a ≤ i) && decide (i ≤ b)) = true
  rw [decide_eq_true h.1, decide_eq_true h.2]
  rfl
theorem among_int {d : D} {a b : Int} (h : amongI d a b = true) : ∃ i, d = .int i ∧ a ≤ i ∧ i ≤ b := by
  cases d with
  | int i =>
    have : (decide (a ≤ i) && decide (i ≤ b)) = true := h
    rw [Bool.and_eq_true, decide_eq_true_iff, decide_eq_true_iff] at this
    exact ⟨i, rfl, this⟩
  | _ => exact absurd h Bool.false_ne_true
/-! stacks as told -/
abbrev Row := Str × Int × Int × Int
def rowD (r : Row) : D := .tup [.str r.1, .int r.2.1, .int r.2.2.1, .int r.2.2.2]
def isSt : D → Bool
  | .tup [n, p, h, w] => isName n && (amongI p 0 1000000000000 && (amongI h 1 20 && amongI w 1 1000000000000))
  | _ => false
def keyN : D → Key
  | .tup (.str n :: _) => .inr n
  | _ => .inl 0
def keyP : D → Key
  | .tup (_ :: .int p :: _) => .inl p
  | _ => .inl 0
def areL (xs : List D) : Bool := (decide (1 ≤ xs.length) && decide (xs.length ≤ 20)) && (xs.all isSt && (decide (((cntK (xs.map keyN).reverse : Nat) : Int) = (xs.length : Int)) && decide ((xs.length : Int) = ((cntK (xs.map keyP).reverse : Nat) : Int))))
def areSt : D → Bool
  | .lst xs => areL xs
  | _ => false
/-- what may be handed in as stacks: the strings in it are short -/
structure ThingS (d : D) : Prop where
  sh : shOk d = true
  sz : ∀ xs, d = .lst xs → ∀ x ∈ xs, ∀ ys, x = .tup ys → ∀ y ∈ ys, ∀ s, y = .str s → s.length ≤ 1000
structure RowOk (r : Row) : Prop where
  nm : nmS r.1 = true
  p0 : 0 ≤ r.2.1
  p1 : r.2.1 ≤ 1000000000000
  h0 : 1 ≤ r.2.2.1
  h1 : r.2.2.1 ≤ 20
  w0 : 1 ≤ r.2.2.2
  w1 : r.2.2.2 ≤ 1000000000000
structure RowsOk (rs : List Row) : Prop where
  l0 : 1 ≤ rs.length
  l1 : rs.length ≤ 20
  ok : ∀ r ∈ rs, RowOk r
  nn : (rs.map fun r => r.1).Nodup
  np : (rs.map fun r => r.2.1).Nodup
theorem row_is {r : Row} (h : RowOk r) : isSt (rowD r) = true := by
  show (nmS r.1 && (amongI (.int r.2.1) 0 1000000000000 && (amongI (.int r.2.2.1) 1 20 && amongI (.int r.2.2.2) 1 1000000000000))) = true
  rw [h.nm, among_yes ⟨h.p0, h.p1⟩, among_yes ⟨h.h0, h.h1⟩, among_yes ⟨h.w0, h.w1⟩]
  rfl
theorem nodup_map_inj {α β : Type} {f : α → β} (hf : ∀ a b, f a = f b → a = b) : ∀ {l : List α}, l.Nodup → (l.map f).Nodup
  | [], _ => List.nodup_nil
  | a :: l, h => by
    rw [List.nodup_cons] at h
    rw [List.map_cons, List.nodup_cons]
    refine ⟨fun q => ?_, nodup_map_inj hf h.2⟩
    obtain ⟨b, hb, e⟩ := List.mem_map.mp q
    rw [hf _ _ e] at hb
    exact h.1 hb
theorem nodup_rev {α : Type} {l : List α} (h : l.Nodup) : l.reverse.Nodup := List.pairwise_reverse.mpr (h.imp fun h => h.symm)
theorem keysN (rs : List Row) : (rs.map rowD).map keyN = (rs.map fun r => r.1).map Sum.inr := by
  rw [List.map_map, List.map_map]
  rfl
theorem keysP (rs : List Row) : (rs.map rowD).map keyP = (rs.map fun r => r.2.1).map Sum.inl := by
  rw [List.map_map, List.map_map]
  rfl
theorem rows_are {rs : List Row} (h : RowsOk rs) : areL (rs.map rowD) = true := by
  have e1 : cntK ((rs.map rowD).map keyN).reverse = rs.length := by
    rw [keysN]
    have := cntK_nodup.mpr (nodup_rev (nodup_map_inj (f := (Sum.inr : Str → Key)) (fun a b q => Sum.inr.inj q) h.nn))
    rw [this, List.length_reverse, List.length_map, List.length_map]
  have e2 : cntK ((rs.map rowD).map keyP).reverse = rs.length := by
    rw [keysP]
    have := cntK_nodup.mpr (nodup_rev (nodup_map_inj (f := (Sum.inl : Int → Key)) (fun a b q => Sum.inl.inj q) h.np))
    rw [this, List.length_reverse, List.length_map, List.length_map]
  have hl : (rs.map rowD).length = rs.length := List.length_map ..
  have ha : (rs.map rowD).all isSt = true := by
    rw [List.all_map]
    exact List.all_eq_true.mpr fun r hr => row_is (h.ok r hr)
  unfold areL
  rw [e1, e2, hl, ha, decide_eq_true h.l0, decide_eq_true h.l1, decide_eq_true rfl]
  rfl
theorem sh_rows : ∀ rs : List Row, shOks (rs.map rowD) = true
  | [] => by
    rw [List.map_nil]
    unfold shOks
    rfl
  | r :: rs => by
    rw [List.map_cons]
    unfold shOks
    rw [sh_rows rs]
    rfl
theorem sh_lst {xs : List D} (h : shOks xs = true) : shOk (.lst xs) = true := by
  unfold shOk
  exact h
theorem sh_un {xs : List D} (h : shOk (.lst xs) = true) : shOks xs = true := by
  unfold shOk at h
  exact h
theorem sh_unT {xs : List D} (h : shOk (.tup xs) = true) : shOks xs = true := by
  unfold shOk at h
  exact h
theorem sh_mem : ∀ {xs : List D}, shOks xs = true → ∀ d ∈ xs, shOk d = true
  | x :: xs, h, d, hd => by
    unfold shOks at h
    rw [Bool.and_eq_true] at h
    rcases List.mem_cons.mp hd with z | z
    · rw [z]
      exact h.1
    · exact sh_mem h.2 d z
theorem rows_thing {rs : List Row} (h : RowsOk rs) : ThingS (.lst (rs.map rowD)) := ⟨sh_lst (sh_rows rs), fun xs e x hx ys ey y hy s es => by
  cases e
  obtain ⟨r, hr, rfl⟩ := List.mem_map.mp hx
  cases ey
  have := nm_short (h.ok r hr).nm
  simp only [List.mem_cons, List.not_mem_nil, or_false] at hy
  rcases hy with rfl | rfl | rfl | rfl
  · cases es
    omega
  · cases es
  · cases es
  · cases es⟩
/-! stacks as they stand -/
structure Stk where
  told : List Row
  piles : List (List (Str × Int))
  lying : List (Str × Str)
def triD (n : Str) (t : Int × Int × Int) : D := .tup [.str n, .int t.1, .int t.2.1, .int t.2.2]
def boxD (b : Str × Int) : D := .tup [.str b.1, .int b.2]
def sndD (d : D) : D := match d with
  | .tup [_, b] => b
  | _ => .non
def pileD (l : List (Str × Int)) : D := .lst (l.map boxD)
def keysE (s : Stk) : List Key := s.told.map fun r => .inr r.1
def toldE (s : Stk) : List (Key × D) := s.told.map fun r => (.inr r.1, triD r.1 r.2)
def pilesE (s : Stk) (ps : List D) : List (Key × D) := (keysE s).zip ps
def lyingE (s : Stk) : List (Key × D) := s.lying.map fun p => (.inr p.1, .str p.2)
def stkFs (s : Stk) (ps : List D) (ly : D) : List (Str × D) := [("_told", .dic (toldE s)), ("_piles", .dic (pilesE s ps)), ("_lying", ly)]
def stkD (C : Addr) (s : Stk) : D := .obj C (stkFs s (s.piles.map pileD) (.dic (lyingE s)))
def newS (rs : List Row) : Stk := ⟨rs, rs.map fun _ => [], []⟩
def find {α : Type} (l : List (Str × α)) (n : Str) : Option α := (l.find? fun p => decide (p.1 = n)).map fun p => p.2
theorem find_nil {α : Type} {n : Str} : find ([] : List (Str × α)) n = none := rfl
theorem find_pos {α : Type} {p : Str × α} {l : List (Str × α)} {n : Str} (h : p.1 = n) : find (p :: l) n = some p.2 := by simp [find, List.find?_cons, h]
theorem find_neg {α : Type} {p : Str × α} {l : List (Str × α)} {n : Str} (h : ¬ p.1 = n) : find (p :: l) n = find l n := by simp [find, List.find?_cons, h]
theorem valE_find {α : Type} {f : α → D} {n : Str} : ∀ l : List (Str × α), valE (l.map fun p => ((.inr p.1 : Key), f p.2)) (.inr n) = (find l n).map f
  | [] => rfl
  | p :: l => by
    rw [List.map_cons]
    by_cases h : p.1 = n
    · rw [valE_pos (by rw [h]), find_pos h]
      rfl
    · rw [valE_neg (fun q => h (Sum.inr.inj q)), find_neg h]
      exact valE_find l
def tri (s : Stk) (n : Str) : Option (Int × Int × Int) := find s.told n
/-- which stack has this name -/
def idx : List Row → Str → Nat
  | [], _ => 0
  | r :: rs, n => if r.1 = n then 0 else idx rs n + 1
theorem idx_lt : ∀ {rs : List Row} {n : Str} {t : Int × Int × Int}, find rs n = some t → idx rs n < rs.length ∧ rs[idx rs n]? = some (n, t)
  | r :: rs, n, t, h => by
    unfold idx
    by_cases e : r.1 = n
    · rw [find_pos e] at h
      cases h
      rw [if_pos e]
      refine ⟨Nat.succ_pos _, ?_⟩
      show some r = some (n, r.2)
      rw [← e]
    · rw [find_neg e] at h
      rw [if_neg e]
      obtain ⟨h1, h2⟩ := idx_lt h
      exact ⟨Nat.succ_lt_succ h1, h2⟩
theorem valE_zip {ps : List D} {n : Str} : ∀ {rs : List Row} {t : Int × Int × Int} {ps : List D}, find rs n = some t → ps.length = rs.length → valE ((rs.map fun r => (.inr r.1 : Key)).zip ps) (.inr n) = ps[idx rs n]?
  | r :: rs, t, [], h, hl => by cases hl
  | r :: rs, t, p :: ps, h, hl => by
    rw [List.map_cons, List.zip_cons_cons]
    unfold idx
    by_cases e : r.1 = n
    · rw [if_pos e, valE_pos (by rw [e])]
      rfl
    · rw [find_neg e] at h
      rw [if_neg e, valE_neg (fun q => e (Sum.inr.inj q))]
      exact valE_zip (ps := ps) h (Nat.succ.inj hl)
theorem valE_find2 {α : Type} {f : Str → α → D} {n : Str} : ∀ l : List (Str × α), valE (l.map fun p => ((.inr p.1 : Key), f p.1 p.2)) (.inr n) = (find l n).map (f n)
  | [] => rfl
  | p :: l => by
    rw [List.map_cons]
    by_cases h : p.1 = n
    · rw [valE_pos (by rw [h]), find_pos h, h]
      rfl
    · rw [valE_neg (fun q => h (Sum.inr.inj q)), find_neg h]
      exact valE_find2 l
theorem told_at (s : Stk) (n : Str) : valE (toldE s) (.inr n) = (tri s n).map (triD n) := valE_find2 s.told
theorem lying_at (s : Stk) (n : Str) : valE (lyingE s) (.inr n) = (find s.lying n).map D.str := valE_find s.lying
def pileAt (s : Stk) (n : Str) : List (Str × Int) := s.piles.getD (idx s.told n) []
theorem piles_at {s : Stk} {n : Str} {t : Int × Int × Int} (h : tri s n = some t) (hl : s.piles.length = s.told.length) : valE (pilesE s (s.piles.map pileD)) (.inr n) = some (pileD (pileAt s n)) := by
  have h2 := idx_lt h
  unfold pilesE keysE
  rw [valE_zip (ps := s.piles.map pileD) h (by rw [List.length_map, hl]), List.getElem?_map, List.getElem?_eq_getElem (by omega)]
  unfold pileAt
  rw [List.getD_eq_getElem?_getD, List.getElem?_eq_getElem (by omega)]
  rfl
/-- a known stack, by what may be handed in -/
def known (s : Stk) : D → Bool
  | .str n => nmS n && (tri s n).isSome
  | _ => false
def lies (s : Stk) : D → Bool
  | .str b => nmS b && (find s.lying b).isSome
  | _ => false
theorem known_str {s : Stk} {d : D} (h : known s d = true) : ∃ n t, d = .str n ∧ nmS n = true ∧ tri s n = some t := by
  cases d with
  | str n =>
    have : (nmS n && (tri s n).isSome) = true := h
    rw [Bool.and_eq_true] at this
    obtain ⟨t, ht⟩ := Option.isSome_iff_exists.mp this.2
    exact ⟨n, t, rfl, this.1, ht⟩
  | _ => exact absurd h Bool.false_ne_true
theorem lies_str {s : Stk} {d : D} (h : lies s d = true) : ∃ b n, d = .str b ∧ nmS b = true ∧ find s.lying b = some n := by
  cases d with
  | str n =>
    have : (nmS n && (find s.lying n).isSome) = true := h
    rw [Bool.and_eq_true] at this
    obtain ⟨t, ht⟩ := Option.isSome_iff_exists.mp this.2
    exact ⟨n, t, rfl, this.1, ht⟩
  | _ => exact absurd h Bool.false_ne_true
/-- what always holds of stacks -/
structure StkOk (s : Stk) : Prop where
  ro : RowsOk s.told
  pl : s.piles.length = s.told.length
  few : ∀ p ∈ s.piles, p.length ≤ 40
  ly : s.lying.length ≤ 1000
  at' : ∀ b n, find s.lying b = some n → nmS n = true ∧ (tri s n).isSome = true ∧ pileAt s n ≠ []
/-! where they stand -/
structure StkAt (C : Addr) (M : Sto) (x L : Addr) (la : List Addr) (s : Stk) : Prop where
  ok : StkOk s
  ins : M x = some (.ins C (stkFs s (la.map D.ptr) (.ptr L)))
  lyi : M L = some (.dic (lyingE s))
  ll : la.length = s.told.length
  pil : ∀ i, i < la.length → M (la.getD i 0) = some (.lst ((s.piles.getD i []).map boxD))
  nd : (x :: L :: la).Nodup
theorem StkAt.ext {C : Addr} {M M' : Sto} {x L : Addr} {la : List Addr} {s : Stk} (h : StkAt C M x L la s) (e : Ext M M') : StkAt C M' x L la s :=
  ⟨h.ok, e _ _ h.ins, e _ _ h.lyi, h.ll, fun i hi => e _ _ (h.pil i hi), h.nd⟩
theorem vwa_piles {M : Sto} : ∀ {la : List Addr} {ps : List (List (Str × Int))}, la.length = ps.length → (∀ i, i < la.length → M (la.getD i 0) = some (.lst ((ps.getD i []).map boxD))) → VwA M (la.map D.ptr) (ps.map pileD)
  | [], [], _, _ => .nil
  | [], _ :: _, h, _ => by cases h
  | _ :: _, [], h, _ => by cases h
  | a :: la, p :: ps, hl, h => .cons (.plst (h 0 (Nat.succ_pos _)) (.same _)) (vwa_piles (Nat.succ.inj hl) fun i hi => h (i + 1) (Nat.succ_lt_succ hi))
theorem StkAt.vw {C : Addr} {M : Sto} {x L : Addr} {la : List Addr} {s : Stk} (h : StkAt C M x L la s) : VwD M (.ptr x) (stkD C s) := by
  have hl : (keysE s).length = la.length := by
    unfold keysE
    rw [List.length_map, h.ll]
  have hp := h.ok.pl
  have hll := h.ll
  refine .pins h.ins rfl (.cons (.same _) (.cons (.dic ?_ ?_) (.cons (.pdic h.lyi rfl (VwA.same _)) .nil)))
  · unfold pilesE
    rw [List.map_fst_zip (by rw [List.length_map]; omega), List.map_fst_zip (by rw [List.length_map]; omega)]
  · unfold pilesE
    rw [List.map_snd_zip (by rw [List.length_map]; omega), List.map_snd_zip (by rw [List.length_map]; omega)]
    exact vwa_piles (by omega) h.pil

/-! what lies where -/
structure StkFull (s : Stk) : Prop where
  ly : ∀ b n, find s.lying b = some n ↔ ∃ t, tri s n = some t ∧ b ∈ (pileAt s n).map fun p => p.1
  nd : ∀ n t, tri s n = some t → ((pileAt s n).map fun p => p.1).Nodup
  nm : ∀ n t, tri s n = some t → ∀ p ∈ pileAt s n, nmS p.1 = true
def takeS (s : Stk) (n b : Str) : Stk := ⟨s.told, s.piles.set (idx s.told n) (pileAt s n).dropLast, s.lying.filter fun p => decide (p.1 ≠ b)⟩
theorem find_filter {α : Type} {b c : Str} : ∀ {l : List (Str × α)}, find (l.filter fun p => decide (p.1 ≠ b)) c = if c = b then none else find l c
  | [] => by
    split <;> rfl
  | p :: l => by
    have ih := find_filter (b := b) (c := c) (l := l)
    by_cases h : p.1 = b
    · rw [List.filter_cons_of_neg (by simp [h]), ih]
      by_cases hc : c = b
      · rw [if_pos hc, if_pos hc]
      · rw [if_neg hc, if_neg hc, find_neg (fun q => hc (q.symm.trans h))]
    · rw [List.filter_cons_of_pos (by simp [h])]
      by_cases hp : p.1 = c
      · rw [find_pos hp, if_neg (fun q => h (hp.trans q)), find_pos hp]
      · rw [find_neg hp, ih, find_neg hp]

def top (i : Nat) : Stmt := PySem.Challenge.pw_craneyard_k07_stacks_by_deeds.main.body.getD i (.Pass ⟨0, 0, 0, 0⟩)
/-- where the classes stand -/
structure XA where
  c_Stacks : Addr
  c_CraneError : Addr
  c_BadName : Addr
  c_BadNumber : Addr
  c_BadStack : Addr
  c_Twice : Addr
  c_NoStack : Addr
  c_NoBox : Addr
  c_TooHigh : Addr
  c_TooHeavy : Addr
  c_Empty : Addr
structure CF (K : PySem.W.Frag) (A : XA) : Prop where
  cl_Stacks : Cls K A.c_Stacks
  n_Stacks__told : NoAttr K A.c_Stacks "_told"
  n_Stacks__piles : NoAttr K A.c_Stacks "_piles"
  n_Stacks__lying : NoAttr K A.c_Stacks "_lying"

def R_is_name : List D → D → Prop := fun ds d => ∃ x, ds = [x] ∧ Thing x ∧ d = .bl (isName x)
theorem ln_is_name {ds : List D} {d : D} (h : R_is_name ds d) : ds.length = 1 := by
  obtain ⟨x, rfl, _⟩ := h
  rfl
def R_is_among : List D → D → Prop := fun ds d => ∃ x a b, ds = [x, .int a, .int b] ∧ noObj x = true ∧ d = .bl (amongI x a b)
theorem ln_is_among {ds : List D} {d : D} (h : R_is_among ds d) : ds.length = 3 := by
  obtain ⟨x, a, b, rfl, _⟩ := h
  rfl
def R_is_stack : List D → D → Prop := fun ds d => ∃ x, ds = [x] ∧ (shOk x = true ∧ ∀ ys, x = .tup ys → ∀ y ∈ ys, ∀ s, y = .str s → s.length ≤ 1000) ∧ d = .bl (isSt x)
theorem ln_is_stack {ds : List D} {d : D} (h : R_is_stack ds d) : ds.length = 1 := by
  obtain ⟨x, rfl, _⟩ := h
  rfl
def R_are_stacks : List D → D → Prop := fun ds d => ∃ x, ds = [x] ∧ ThingS x ∧ d = .bl (areSt x)
theorem ln_are_stacks {ds : List D} {d : D} (h : R_are_stacks ds d) : ds.length = 1 := by
  obtain ⟨x, rfl, _⟩ := h
  rfl
def R_Stacks_init (A : XA) : RelI := fun x ds M P => (∃ rs : List Row, ds = [.lst (rs.map rowD)] ∧ RowsOk rs ∧ P = fun r M' => r = .ok .non ∧ ∃ L la, StkAt A.c_Stacks M' x L la (newS rs) ∧ Ext M M' ∧ ∀ a ∈ x :: L :: la, M a = none) ∨
  ∃ z, ds = [z] ∧ ThingS z ∧ areSt z = false ∧ P = fun r M' => r = .exc A.c_BadStack ∧ Ext M M'
theorem ln_Stacks_init {A : XA} {x : Addr} {ds : List D} {M : Sto} {P : Res → Sto → Prop} (h : R_Stacks_init A x ds M P) : ds.length = 1 := by
  rcases h with ⟨x, rfl, _⟩ | ⟨x, rfl, _⟩ <;> rfl
def R_Stacks__ask_stack (A : XA) : List D → Res → Prop := fun ds r => ∃ s x, ds = [stkD A.c_Stacks s, x] ∧ Thing x ∧ r = if known s x = true then .ok .non else .exc A.c_NoStack
theorem ln_Stacks__ask_stack {A : XA} {ds : List D} {r : Res} (h : R_Stacks__ask_stack A ds r) : ds.length = 2 := by
  obtain ⟨s, x, rfl, _⟩ := h
  rfl
/-- a question of a stack -/
def askS (A : XA) (f : Stk → Str → Int × Int × Int → D) : List D → Res → Prop := fun ds r => ∃ s x, ds = [stkD A.c_Stacks s, x] ∧ Thing x ∧ s.piles.length = s.told.length ∧ ((known s x = false ∧ r = .exc A.c_NoStack) ∨ ∃ n t, x = .str n ∧ nmS n = true ∧ tri s n = some t ∧ r = .ok (f s n t))
theorem ln_askS {A : XA} {f : Stk → Str → Int × Int × Int → D} {ds : List D} {r : Res} (h : askS A f ds r) : ds.length = 2 := by
  obtain ⟨s, x, rfl, _⟩ := h
  rfl
def R_Stacks_place_of (A : XA) : List D → Res → Prop := askS A fun _ _ t => .int t.1
def R_Stacks_high (A : XA) : List D → Res → Prop := askS A fun _ _ t => .int t.2.1
def R_Stacks_weight (A : XA) : List D → Res → Prop := askS A fun _ _ t => .int t.2.2
def R_Stacks_boxes (A : XA) : List D → List D → Prop := fun ds l => ∃ s n t, ds = [stkD A.c_Stacks s, .str n] ∧ nmS n = true ∧ tri s n = some t ∧ s.piles.length = s.told.length ∧ l = (pileAt s n).map boxD
def R_Stacks_names (A : XA) : List D → List D → Prop := fun ds l => ∃ s, ds = [stkD A.c_Stacks s] ∧ s.told.length ≤ 20 ∧ l = (srtS (s.told.map fun r => r.1)).map D.str
theorem ln_Stacks_names {A : XA} {ds : List D} {r : List D} (h : R_Stacks_names A ds r) : ds.length = 1 := by
  obtain ⟨s, rfl, _⟩ := h
  rfl
theorem ln_Stacks_place_of {A : XA} {ds : List D} {r : Res} (h : R_Stacks_place_of A ds r) : ds.length = 2 := ln_askS h
theorem ln_Stacks_high {A : XA} {ds : List D} {r : Res} (h : R_Stacks_high A ds r) : ds.length = 2 := ln_askS h
theorem ln_Stacks_weight {A : XA} {ds : List D} {r : Res} (h : R_Stacks_weight A ds r) : ds.length = 2 := ln_askS h
theorem ln_Stacks_boxes {A : XA} {ds : List D} {r : List D} (h : R_Stacks_boxes A ds r) : ds.length = 2 := by
  obtain ⟨s, n, t, rfl, _⟩ := h
  rfl
/-- a question of a box -/
def askB (A : XA) (f : Stk → Str → Str → D) : List D → Res → Prop := fun ds r => ∃ s x, ds = [stkD A.c_Stacks s, x] ∧ Thing x ∧ StkOk s ∧ ((lies s x = false ∧ r = .exc A.c_NoBox) ∨ ∃ b n, x = .str b ∧ nmS b = true ∧ find s.lying b = some n ∧ r = .ok (f s b n))
theorem ln_askB {A : XA} {f : Stk → Str → Str → D} {ds : List D} {r : Res} (h : askB A f ds r) : ds.length = 2 := by
  obtain ⟨s, x, rfl, _⟩ := h
  rfl
def topOf (s : Stk) (b n : Str) : Bool := decide (((pileAt s n).getD ((pileAt s n).length - 1) (b, 0)).1 = b)
def R_Stacks_where (A : XA) : List D → Res → Prop := askB A fun _ _ n => .str n
def R_Stacks_is_top (A : XA) : List D → Res → Prop := askB A fun s b n => .bl (topOf s b n)
theorem ln_Stacks_where {A : XA} {ds : List D} {r : Res} (h : R_Stacks_where A ds r) : ds.length = 2 := ln_askB h
theorem ln_Stacks_is_top {A : XA} {ds : List D} {r : Res} (h : R_Stacks_is_top A ds r) : ds.length = 2 := ln_askB h
def R_Stacks__lies (A : XA) : List D → D → Prop := fun ds d => ∃ s x, ds = [stkD A.c_Stacks s, x] ∧ Thing x ∧ d = .bl (lies s x)
theorem ln_Stacks__lies {A : XA} {ds : List D} {d : D} (h : R_Stacks__lies A ds d) : ds.length = 2 := by
  obtain ⟨s, x, rfl, _⟩ := h
  rfl
def wsum (l : List (Str × Int)) : Int := (l.map fun b => b.2).sum
/-- what space a stack has -/
def space (A : XA) (s : Stk) (n : Str) (t : Int × Int × Int) (w : Int) : Res := if t.2.1 ≤ ((pileAt s n).length : Int) then .exc A.c_TooHigh else if t.2.2 < wsum (pileAt s n) + w then .exc A.c_TooHeavy else .ok .non
def R_Stacks__ask_space (A : XA) : List D → Res → Prop := fun ds r => ∃ s w n t, ds = [stkD A.c_Stacks s, .int w, .str n] ∧ tri s n = some t ∧ s.piles.length = s.told.length ∧ (pileAt s n).length ≤ 40 ∧ r = space A s n t w
theorem ln_Stacks__ask_space {A : XA} {ds : List D} {r : Res} (h : R_Stacks__ask_space A ds r) : ds.length = 3 := by
  obtain ⟨s, w, n, t, rfl, _⟩ := h
  rfl
def excP (C : Addr) (M : Sto) : Res → Sto → Prop := fun r M' => r = .exc C ∧ M' = M
def putS (s : Stk) (b : Str) (w : Int) (n : Str) : Stk := ⟨s.told, s.piles.set (idx s.told n) (pileAt s n ++ [(b, w)]), s.lying ++ [(b, n)]⟩
/-- nothing else changes -/
def Same (M M' : Sto) (fp : List Addr) : Prop := ∀ a, a ∉ fp → M' a = M a
def R_Stacks_put (A : XA) : RelM := fun ds M P => ∃ x L la s b w st, ds = [.ptr x, b, w, st] ∧ StkAt A.c_Stacks M x L la s ∧ Thing b ∧ shOk w = true ∧ Thing st ∧ ((isName b = false ∧ P = excP A.c_BadName M) ∨ (isName b = true ∧ amongI w 1 1000000000000 = false ∧ P = excP A.c_BadNumber M) ∨
  (isName b = true ∧ amongI w 1 1000000000000 = true ∧ known s st = false ∧ P = excP A.c_NoStack M) ∨ (isName b = true ∧ amongI w 1 1000000000000 = true ∧ known s st = true ∧ lies s b = true ∧ P = excP A.c_Twice M) ∨
  ∃ bn wn n t, b = .str bn ∧ w = .int wn ∧ st = .str n ∧ nmS bn = true ∧ amongI w 1 1000000000000 = true ∧ nmS n = true ∧ tri s n = some t ∧ lies s b = false ∧ s.lying.length ≤ 900 ∧
    ((∃ C, space A s n t wn = .exc C ∧ P = excP C M) ∨ (space A s n t wn = .ok .non ∧ P = fun r M' => r = .ok .non ∧ StkAt A.c_Stacks M' x L la (putS s bn wn n) ∧ Same M M' (x :: L :: la))))
theorem ln_Stacks_put {A : XA} {ds : List D} {M : Sto} {P : Res → Sto → Prop} (h : R_Stacks_put A ds M P) : ds.length = 4 := by
  obtain ⟨x, L, la, s, b, w, st, rfl, _⟩ := h
  rfl
def R_Stacks_take (A : XA) : RelM := fun ds M P => ∃ x L la s st, ds = [.ptr x, st] ∧ StkAt A.c_Stacks M x L la s ∧ Thing st ∧ ((known s st = false ∧ P = excP A.c_NoStack M) ∨
  ∃ n t, st = .str n ∧ nmS n = true ∧ tri s n = some t ∧ ((pileAt s n = [] ∧ P = excP A.c_Empty M) ∨ ∃ l b w, pileAt s n = l ++ [(b, w)] ∧ nmS b = true ∧ (find s.lying b).isSome = true ∧ P = fun r M' => r = .ok (boxD (b, w)) ∧ (StkFull s → StkAt A.c_Stacks M' x L la (takeS s n b) ∧ Same M M' (x :: L :: la))))
theorem ln_Stacks_take {A : XA} {ds : List D} {M : Sto} {P : Res → Sto → Prop} (h : R_Stacks_take A ds M P) : ds.length = 2 := by
  obtain ⟨x, L, la, s, st, rfl, _⟩ := h
  rfl
def sp_is_name (K : PySem.W.Frag) (A : XA) : Sp := spD K R_is_name
def sp_is_among (K : PySem.W.Frag) (A : XA) : Sp := spD K R_is_among
def sp_is_stack (K : PySem.W.Frag) (A : XA) : Sp := spD K R_is_stack
def sp_are_stacks (K : PySem.W.Frag) (A : XA) : Sp := spD K R_are_stacks
def sp_Stacks_init (K : PySem.W.Frag) (A : XA) : Sp := spMI K A.c_Stacks (R_Stacks_init A)
def sp_Stacks__ask_stack (K : PySem.W.Frag) (A : XA) : Sp := spX K (R_Stacks__ask_stack A)
def sp_Stacks_place_of (K : PySem.W.Frag) (A : XA) : Sp := spX K (R_Stacks_place_of A)
def sp_Stacks_high (K : PySem.W.Frag) (A : XA) : Sp := spX K (R_Stacks_high A)
def sp_Stacks_weight (K : PySem.W.Frag) (A : XA) : Sp := spX K (R_Stacks_weight A)
def sp_Stacks_boxes (K : PySem.W.Frag) (A : XA) : Sp := spO K (R_Stacks_boxes A)
def sp_Stacks_names (K : PySem.W.Frag) (A : XA) : Sp := spO K (R_Stacks_names A)
def sp_Stacks_where (K : PySem.W.Frag) (A : XA) : Sp := spX K (R_Stacks_where A)
def sp_Stacks_is_top (K : PySem.W.Frag) (A : XA) : Sp := spX K (R_Stacks_is_top A)
def sp_Stacks__lies (K : PySem.W.Frag) (A : XA) : Sp := spD K (R_Stacks__lies A)
def sp_Stacks__ask_space (K : PySem.W.Frag) (A : XA) : Sp := spX K (R_Stacks__ask_space A)
def sp_Stacks_put (K : PySem.W.Frag) (A : XA) : Sp := spM K (R_Stacks_put A)
def sp_Stacks_take (K : PySem.W.Frag) (A : XA) : Sp := spM K (R_Stacks_take A)
section
variable {K : PySem.W.Frag} {A : XA} {vs : List V} {H : Hp} {Q : VK} {E : XK}
theorem len_is_name (h : sp_is_name K A vs H Q E) : vs.length = 1 := spD_len (fun _ _ => ln_is_name) h
theorem len_is_among (h : sp_is_among K A vs H Q E) : vs.length = 3 := spD_len (fun _ _ => ln_is_among) h
theorem len_is_stack (h : sp_is_stack K A vs H Q E) : vs.length = 1 := spD_len (fun _ _ => ln_is_stack) h
theorem len_are_stacks (h : sp_are_stacks K A vs H Q E) : vs.length = 1 := spD_len (fun _ _ => ln_are_stacks) h
theorem len_Stacks_init (h : sp_Stacks_init K A vs H Q E) : vs.length = 2 := spMI_len (fun _ _ _ _ => ln_Stacks_init) h
theorem len_Stacks__ask_stack (h : sp_Stacks__ask_stack K A vs H Q E) : vs.length = 2 := spX_len (fun _ _ => ln_Stacks__ask_stack) h
theorem len_Stacks_place_of (h : sp_Stacks_place_of K A vs H Q E) : vs.length = 2 := spX_len (fun _ _ => ln_Stacks_place_of) h
theorem len_Stacks_high (h : sp_Stacks_high K A vs H Q E) : vs.length = 2 := spX_len (fun _ _ => ln_Stacks_high) h
theorem len_Stacks_weight (h : sp_Stacks_weight K A vs H Q E) : vs.length = 2 := spX_len (fun _ _ => ln_Stacks_weight) h
theorem len_Stacks_boxes (h : sp_Stacks_boxes K A vs H Q E) : vs.length = 2 := spO_len (fun _ _ => ln_Stacks_boxes) h
theorem len_Stacks_names (h : sp_Stacks_names K A vs H Q E) : vs.length = 1 := spO_len (fun _ _ => ln_Stacks_names) h
theorem len_Stacks_where (h : sp_Stacks_where K A vs H Q E) : vs.length = 2 := spX_len (fun _ _ => ln_Stacks_where) h
theorem len_Stacks_is_top (h : sp_Stacks_is_top K A vs H Q E) : vs.length = 2 := spX_len (fun _ _ => ln_Stacks_is_top) h
theorem len_Stacks__lies (h : sp_Stacks__lies K A vs H Q E) : vs.length = 2 := spD_len (fun _ _ => ln_Stacks__lies) h
theorem len_Stacks__ask_space (h : sp_Stacks__ask_space K A vs H Q E) : vs.length = 3 := spX_len (fun _ _ => ln_Stacks__ask_space) h
theorem len_Stacks_put (h : sp_Stacks_put K A vs H Q E) : vs.length = 4 := spM_len (fun _ _ _ => ln_Stacks_put) h
theorem len_Stacks_take (h : sp_Stacks_take K A vs H Q E) : vs.length = 2 := spM_len (fun _ _ _ => ln_Stacks_take) h
end

/-- stacks alike -/
def copP (A : XA) (M : Sto) (s : Stk) : Res → Sto → Prop := fun r M' => ∃ x' L' la', r = .ok (.ptr x') ∧ StkAt A.c_Stacks M' x' L' la' s ∧ Ext M M' ∧ ∀ a ∈ x' :: L' :: la', M a = none
def R_Stacks_copied (A : XA) : RelM := fun ds M P => ∃ x L la s, ds = [.ptr x] ∧ StkAt A.c_Stacks M x L la s ∧ P = copP A M s
theorem ln_Stacks_copied {A : XA} {ds : List D} {M : Sto} {P : Res → Sto → Prop} (h : R_Stacks_copied A ds M P) : ds.length = 1 := by
  obtain ⟨x, L, la, s, rfl, _⟩ := h
  rfl
def sp_Stacks_copied (K : PySem.W.Frag) (A : XA) : Sp := spM K (R_Stacks_copied A)
theorem len_Stacks_copied {K : PySem.W.Frag} {A : XA} {vs : List V} {H : Hp} {Q : VK} {E : XK} (h : sp_Stacks_copied K A vs H Q E) : vs.length = 1 := spM_len (fun _ _ _ => ln_Stacks_copied) h

/-! the law's numbers -/
def mn (c k : Int) : Int := (c % 1000000007 + 7919 * k * k + 31 * k + 17) * 48271 % 2147483647
def mx (c k : Int) : Int := mn c k * (mn c k % 65521 + 16807) % 2147483629 / 4
theorem mx_in (c k : Int) : 0 ≤ mx c k ∧ mx c k < 1000000000 := by
  have h0 : 0 ≤ mn c k * (mn c k % 65521 + 16807) % 2147483629 := Int.emod_nonneg _ (by decide)
  have h1 : mn c k * (mn c k % 65521 + 16807) % 2147483629 < 2147483629 := Int.emod_lt_of_pos _ (by decide)
  unfold mx
  omega
def dv (c : Int) : Nat → Int
  | 0 => c
  | n + 1 => dv c n / 1000000000
def c0 (ns : List Int) (k : Int) : Int := ns.getD (k % (ns.length : Int)).toNat 0
def tm (ns : List Int) (k : Int) : Nat := (min 60 (k / (ns.length : Int))).toNat
def nb (ns : List Int) (k : Int) : Int := if ns = [] then mx 0 k else if ns.getD 0 0 % 2 = 1 then dv (c0 ns k) (tm ns k) % 1000000000 else mx (c0 ns k) k
theorem nb_in (ns : List Int) (k : Int) : 0 ≤ nb ns k ∧ nb ns k < 1000000000 := by
  unfold nb
  split
  · exact mx_in _ _
  · split
    · exact ⟨Int.emod_nonneg _ (by decide), Int.emod_lt_of_pos _ (by decide)⟩
    · exact mx_in _ _
def R_l_mixed : List D → D → Prop := fun ds d => ∃ c k, ds = [.int c, .int k] ∧ (0 ≤ k ∧ k ≤ 100000) ∧ d = .int (mx c k)
theorem ln_l_mixed {ds : List D} {d : D} (h : R_l_mixed ds d) : ds.length = 2 := by
  obtain ⟨c, k, rfl, _⟩ := h
  rfl
def R_l_number : List D → D → Prop := fun ds d => ∃ ns k, ds = [.scr ns, .int k] ∧ (0 ≤ k ∧ k ≤ 100000) ∧ ns.length ≤ 63 ∧ d = .int (nb ns k)
theorem ln_l_number {ds : List D} {d : D} (h : R_l_number ds d) : ds.length = 2 := by
  obtain ⟨c, k, rfl, _⟩ := h
  rfl
def sp_l_mixed (K : PySem.W.Frag) (A : XA) : Sp := spD K R_l_mixed
def sp_l_number (K : PySem.W.Frag) (A : XA) : Sp := spD K R_l_number
section
variable {K : PySem.W.Frag} {A : XA} {vs : List V} {H : Hp} {Q : VK} {E : XK}
theorem len_l_mixed (h : sp_l_mixed K A vs H Q E) : vs.length = 2 := spD_len (fun _ _ => ln_l_mixed) h
theorem len_l_number (h : sp_l_number K A vs H Q E) : vs.length = 2 := spD_len (fun _ _ => ln_l_number) h
end

/-! small data: what repr takes -/
structure Sm (n w : Nat) (d : D) : Prop where
  sh : shOk d = true
  lf : (toQ d).leavesShort 40 = true
  sw : PyData.showable (toQ d) = true
  dp : (toQ d).depth ≤ n
  wt : (toQ d).weight ≤ w
theorem Sm.mono {n w n' w' : Nat} {d : D} (h : Sm n w d) (hn : n ≤ n') (hw : w ≤ w') : Sm n' w' d := ⟨h.sh, h.lf, h.sw, Nat.le_trans h.dp hn, Nat.le_trans h.wt hw⟩
theorem sm_int {i : Int} (h : i.natAbs < 10 ^ 15) : Sm 0 60 (.int i) := by
  have hlog : i.natAbs.log2 < 50 := by
    by_cases z : i.natAbs = 0
    · rw [z]
      decide
    · exact (Nat.log2_lt z).mpr (Nat.lt_trans h (by decide))
  refine ⟨rfl, ?_, ?_, Nat.le_refl 0, ?_⟩
  · show decide ((PyData.shown (.int i)).length ≤ 40) = true
    refine decide_eq_true ?_
    have e := int_text_length_le10 (k := 15) (by decide) h
    show (Str.ofString (toString i)).length ≤ 40
    rw [ofString_length]
    omega
  · show decide (i.natAbs.log2 < 1920) = true
    exact decide_eq_true (by omega)
  · show (if i == 0 then 0 else i.natAbs.log2 + 1) ≤ 60
    split <;> omega
theorem sm_bl {b : Bool} : Sm 0 60 (.bl b) := ⟨rfl, rfl, rfl, Nat.le_refl 0, Nat.zero_le _⟩
theorem sm_non : Sm 0 60 .non := ⟨rfl, rfl, rfl, Nat.le_refl 0, Nat.zero_le _⟩
theorem sm_dic : Sm 1 60 (.dic []) := ⟨rfl, rfl, rfl, Nat.le_refl 1, Nat.zero_le _⟩
theorem sm_s1 : Sm 0 60 (.str "1") := ⟨rfl, by decide +kernel, rfl, Nat.le_refl 0, by decide +kernel⟩
theorem sm_s11 : Sm 0 60 (.str "11") := ⟨rfl, by decide +kernel, rfl, Nat.le_refl 0, by decide +kernel⟩
def SmA (n w : Nat) (xs : List D) : Prop := ∀ d ∈ xs, Sm n w d
theorem SmA.nil {n w : Nat} : SmA n w [] := fun _ h => nomatch h
theorem SmA.cons {n w : Nat} {x : D} {xs : List D} (h : Sm n w x) (t : SmA n w xs) : SmA n w (x :: xs) := fun d hd => by
  rcases List.mem_cons.mp hd with z | z
  · rw [z]
    exact h
  · exact t d z
theorem SmA.app {n w : Nat} {xs ys : List D} (h : SmA n w xs) (t : SmA n w ys) : SmA n w (xs ++ ys) := fun d hd => (List.mem_append.mp hd).elim (h d) (t d)
theorem sma_all {n w : Nat} : ∀ {xs : List D}, SmA n w xs → shOks xs = true ∧ PyData.leavesShortAll 40 (toQs xs) = true ∧ PyData.showableAll (toQs xs) = true ∧ PyData.depthAll (toQs xs) ≤ n ∧ PyData.weightAll (toQs xs) ≤ (w + 1) * xs.length
  | [], _ => ⟨rfl, rfl, rfl, Nat.zero_le _, Nat.zero_le _⟩
  | x :: xs, h => by
    obtain ⟨a, b, c, d, e⟩ := sma_all (xs := xs) fun y hy => h y (List.mem_cons_of_mem _ hy)
    have hx := h x List.mem_cons_self
    refine ⟨?_, ?_, ?_, ?_, ?_⟩
    · show (shOk x && shOks xs) = true
      rw [hx.sh, a]
      rfl
    · show ((toQ x).leavesShort 40 && PyData.leavesShortAll 40 (toQs xs)) = true
      rw [hx.lf, b]
      rfl
    · show (PyData.showable (toQ x) && PyData.showableAll (toQs xs)) = true
      rw [hx.sw, c]
      rfl
    · show max (toQ x).depth (PyData.depthAll (toQs xs)) ≤ n
      exact Nat.max_le.mpr ⟨hx.dp, d⟩
    · show (toQ x).weight + 1 + PyData.weightAll (toQs xs) ≤ (w + 1) * (xs.length + 1)
      have := hx.wt
      rw [Nat.mul_succ]
      omega
theorem sm_lst {n w k : Nat} {xs : List D} (h : SmA n w xs) (hk : xs.length ≤ k) : Sm (n + 1) ((w + 1) * k) (.lst xs) := by
  obtain ⟨a, b, c, d, e⟩ := sma_all h
  exact ⟨a, b, c, Nat.succ_le_succ d, Nat.le_trans e (Nat.mul_le_mul_left _ hk)⟩
theorem sm_tup {n w k : Nat} {xs : List D} (h : SmA n w xs) (hk : xs.length ≤ k) : Sm (n + 1) ((w + 1) * k) (.tup xs) := by
  obtain ⟨a, b, c, d, e⟩ := sma_all h
  exact ⟨a, b, c, Nat.succ_le_succ d, Nat.le_trans e (Nat.mul_le_mul_left _ hk)⟩
theorem sm_str {z : Str} (h1 : ∀ c ∈ z.cps.toList, c < 16 ^ 8) (h2 : z.length ≤ 60) : Sm 0 60 (.str z) := ⟨rfl, List.all_eq_true.mpr fun c hc => decide_eq_true (h1 c hc), rfl, Nat.le_refl 0, h2⟩
theorem sm_nm {z : Str} (h : nmS z = true) : Sm 0 60 (.str z) := by
  refine sm_str (fun c hc => ?_) (by have := nm_short h; omega)
  unfold nmS at h
  rw [Bool.and_eq_true] at h
  have := List.all_eq_true.mp h.2 c hc
  unfold letter at this
  rw [Bool.and_eq_true, decide_eq_true_iff, decide_eq_true_iff] at this
  omega
/-! things shown -/
theorem n_show {K : PySem.W.Frag} {d : D} (h : Sm 6 60003 d) : ∃ t, OpN K (gReprA K) [d] (.str t) := by
  have hz : (toQ d).shown.length ≤ sizeLine := by
    have a := PyData.shown_le 40 (by decide) (toQ d) h.lf
    have b := h.wt
    have c : sizeLine = 16777216 := sizeLine_eq
    have : (40 + 2) * (toQ d).weight ≤ 42 * 60003 := Nat.mul_le_mul_left 42 b
    omega
  have hd : (toQ d).depth ≤ 60 := Nat.le_trans h.dp (by decide)
  have hs := h.sh
  cases d with
  | non => exact ⟨_, opn_l n_reprN⟩
  | bl b => exact ⟨_, opn_l (opn_r (opn_l (op1_v fun {F H vs} e r => by
      obtain ⟨v, rfl, r1⟩ := rpa1 r
      cases r1
      exact ⟨.str (if b then "True" else "False"), .str _, fun Q q => ⟨b, rfl, q⟩⟩)))⟩
  | int i => exact ⟨_, opn_l (opn_l (op1_v fun {F H vs} e r => by
      obtain ⟨v, rfl, r1⟩ := rpa1 r
      cases r1
      exact ⟨.str _, .str _, fun Q q => ⟨i, rfl, of_decide_eq_true h.sw, q⟩⟩))⟩
  | str z => exact ⟨_, opn_l (n_reprS hz)⟩
  | lst xs => exact ⟨_, n_reprD (fun h => by cases h; exact ⟨_, rfl⟩) hs h.sw hd hz⟩
  | tup xs => exact ⟨_, n_reprD (fun h => by cases h; exact ⟨_, rfl⟩) hs h.sw hd hz⟩
  | dic es => exact ⟨_, n_reprD (fun h => by cases h; exact ⟨_, rfl⟩) hs h.sw hd hz⟩
  | obj C fs => unfold shOk at hs; cases hs
  | scr ns => unfold shOk at hs; cases hs
  | exc C => unfold shOk at hs; cases hs
  | ptr p => unfold shOk at hs; cases hs

/-! the law's names -/
abbrev lets : Str := "abcdefghijklmnopqrstuvwxyz"
theorem let_at : ∀ i, i < 26 → lets.cps.toList.getD i 0 = 97 + i := by decide +kernel
theorem let_len : lets.cps.toList.length = 26 := by decide +kernel
def ltr (i : Int) : Nat := lets.cps.toList.getD (i % 26).toNat 0
theorem ltr_at (i : Int) : ltr i = 97 + (i % 26).toNat := let_at _ (by have := Int.emod_lt_of_pos i (show (0 : Int) < 26 by decide); have := Int.emod_nonneg i (show (26 : Int) ≠ 0 by decide); omega)
theorem ltr_is (i : Int) : letter (ltr i) = true := by
  rw [ltr_at]
  have := Int.emod_lt_of_pos i (show (0 : Int) < 26 by decide)
  have := Int.emod_nonneg i (show (26 : Int) ≠ 0 by decide)
  unfold letter
  rw [decide_eq_true (by omega), decide_eq_true (by omega)]
  rfl
def bs1 (n : Int) (j : Nat) : Str := ⟨#[ltr (n + 5 * (j : Int) + (j : Int) * (j : Int))]⟩
def bsL (n : Int) : List Str := (List.range 8).map (bs1 n)
def bsS (n : Int) : Str := Txt.join ("" : Str) (bsL n)
theorem joinL_nil : ∀ L : List (List Nat), joinL [] L = L.flatten
  | [] => rfl
  | [p] => by
    show p = p ++ []
    rw [List.append_nil]
  | p :: q :: r => by
    show p ++ ([] ++ joinL [] (q :: r)) = p ++ (q :: r).flatten
    rw [List.nil_append, joinL_nil (q :: r)]
theorem bs_tl (n : Int) : tl (bsS n) = (List.range 8).map fun (j : Nat) => ltr (n + 5 * (j : Int) + (j : Int) * (j : Int)) := by
  unfold bsS
  rw [join_eq]
  have h1 := tl_join ("" : Str) (bsL n)
  have h2 : tl ("" : Str) = [] := by decide +kernel
  rw [h2, joinL_nil] at h1
  rw [h1]
  rfl
theorem bs_len (n : Int) : (tl (bsS n)).length = 8 := by
  rw [bs_tl, List.length_map, List.length_range]
theorem bs_let (n : Int) : ∀ c ∈ tl (bsS n), letter c = true := fun c hc => by
  rw [bs_tl] at hc
  obtain ⟨j, _, rfl⟩ := List.mem_map.mp hc
  exact ltr_is _
def lngV (n : Int) : Int := n / 30 % 8
def atV (n : Int) : Int := n / 240 % (lngV n + 1)
def sgV (n : Int) (k : Nat) : Nat := ltr (n / 2000 + 3 * (k : Int))
def nm0 (n : Int) (k : Nat) : Str := cutS (bsS n) none (some (atV n)) ++ ⟨#[sgV n k]⟩ ++ cutS (bsS n) (some (atV n)) (some (lngV n))
theorem lng_in (n : Int) : 0 ≤ lngV n ∧ lngV n ≤ 7 := by
  have := Int.emod_lt_of_pos (n / 30) (show (0 : Int) < 8 by decide)
  have := Int.emod_nonneg (n / 30) (show (8 : Int) ≠ 0 by decide)
  unfold lngV
  omega
theorem at_in (n : Int) : 0 ≤ atV n ∧ atV n ≤ lngV n := by
  have h := lng_in n
  have := Int.emod_lt_of_pos (n / 240) (show (0 : Int) < lngV n + 1 by omega)
  have := Int.emod_nonneg (n / 240) (show lngV n + 1 ≠ 0 by omega)
  unfold atV
  omega
theorem nm0_tl (n : Int) (k : Nat) : tl (nm0 n k) = (tl (bsS n)).take (atV n).toNat ++ ([sgV n k] ++ ((tl (bsS n)).drop (atV n).toNat).take ((lngV n).toNat - (atV n).toNat)) := by
  have h := lng_in n
  have h2 := at_in n
  have hl : (bsS n).length = 8 := by
    rw [len_tl]
    exact bs_len n
  unfold nm0
  rw [tl_append, tl_append, List.append_assoc]
  obtain ⟨a, ha⟩ : ∃ a : Nat, atV n = (a : Int) := ⟨(atV n).toNat, by omega⟩
  obtain ⟨l, hlg⟩ : ∃ a : Nat, lngV n = (a : Int) := ⟨(lngV n).toNat, by omega⟩
  have hb1 : (a : Int) ≤ 7 := by omega
  have hb2 : (l : Int) ≤ 7 := by omega
  rw [ha, hlg]
  congr 1
  · show ((tl (bsS n)).drop (HT.sIx (bsS n).length 0 none)).take (HT.sIx (bsS n).length (bsS n).length (some (a : Int)) - HT.sIx (bsS n).length 0 none) = _
    rw [HT.sIx_none, HT.sIx_nat, hl, List.drop_zero, Int.toNat_natCast]
    congr 1
    omega
  · congr 1
    show ((tl (bsS n)).drop (HT.sIx (bsS n).length 0 (some (a : Int)))).take (HT.sIx (bsS n).length (bsS n).length (some (l : Int)) - HT.sIx (bsS n).length 0 (some (a : Int))) = _
    rw [HT.sIx_nat, HT.sIx_nat, hl, Int.toNat_natCast, Int.toNat_natCast]
    have e1 : min a 8 = a := by omega
    have e2 : min l 8 = l := by omega
    rw [e1, e2]
theorem nm0_is (n : Int) (k : Nat) : nmS (nm0 n k) = true := by
  have h := lng_in n
  have h2 := at_in n
  have hl := bs_len n
  have e := nm0_tl n k
  have hlen : (nm0 n k).length = (tl (nm0 n k)).length := len_tl _
  unfold nmS
  rw [hlen]
  show (decide (1 ≤ (tl (nm0 n k)).length ∧ (tl (nm0 n k)).length ≤ 8) && (tl (nm0 n k)).all letter) = true
  rw [e]
  rw [Bool.and_eq_true]
  constructor
  · refine decide_eq_true ?_
    rw [List.length_append, List.length_append, List.length_take, List.length_take, List.length_drop, hl]
    simp only [List.length_singleton]
    omega
  · rw [List.all_eq_true]
    intro c hc
    rcases List.mem_append.mp hc with q | q
    · exact bs_let n c (List.mem_of_mem_take q)
    · rcases List.mem_append.mp q with q | q
      · rw [List.mem_singleton.mp q]
        exact ltr_is _
      · exact bs_let n c (List.mem_of_mem_drop (List.mem_of_mem_take q))
theorem nm0_inj {n : Int} {i j : Nat} (hi : i < 26) (hj : j < 26) (h : nm0 n i = nm0 n j) : i = j := by
  have e := congrArg tl h
  rw [nm0_tl, nm0_tl] at e
  have e2 := List.append_cancel_left e
  have e3 : sgV n i = sgV n j := by
    simp only [List.cons_append, List.nil_append, List.cons.injEq] at e2
    exact e2.1
  unfold sgV at e3
  rw [ltr_at, ltr_at] at e3
  omega
theorem nm0_len (n : Int) (k : Nat) : (tl (nm0 n k)).length = (lngV n).toNat + 1 := by
  have h := lng_in n
  have h2 := at_in n
  rw [nm0_tl, List.length_append, List.length_append, List.length_take, List.length_take, List.length_drop, bs_len n]
  simp only [List.length_singleton]
  omega
def addS (n : Int) (k : Nat) : Str := if ((k : Int) % 2 : Int) = 1 then ⟨#[(tl (bsS n)).getD (((k : Int) % 8).toNat) 0]⟩ else Str.empty
def nm1 (n : Int) (k : Nat) : Str := if (nm0 n k).length < 8 then nm0 n k ++ addS n k else nm0 n k
def nmsL (n : Int) (k : Nat) : List Str := (List.range k).map (nm1 n)
theorem add_tl (n : Int) (k : Nat) : (tl (addS n k)).length = k % 2 ∧ ∀ c ∈ tl (addS n k), letter c = true := by
  unfold addS
  by_cases h : ((k : Int) % 2 : Int) = 1
  · rw [if_pos h]
    refine ⟨by show 1 = k % 2; omega, fun c hc => ?_⟩
    rw [List.mem_singleton.mp hc]
    have hl := bs_len n
    exact bs_let n _ (getD_in 0 _ _ (by rw [hl]; omega))
  · rw [if_neg h]
    exact ⟨by show 0 = k % 2; omega, fun c hc => nomatch hc⟩
theorem nm1_is (n : Int) (k : Nat) : nmS (nm1 n k) = true := by
  unfold nm1
  split
  · rename_i h
    have h0 := nm0_is n k
    have ha := add_tl n k
    have hs := nm_short h0
    unfold nmS at h0 ⊢
    rw [Bool.and_eq_true] at h0 ⊢
    have e : (nm0 n k ++ addS n k).length = (nm0 n k).length + k % 2 := by
      rw [len_tl, tl_append, List.length_append, ← len_tl, ha.1]
    refine ⟨decide_eq_true (by rw [e]; omega), ?_⟩
    show (tl (nm0 n k ++ addS n k)).all letter = true
    rw [tl_append, List.all_append, Bool.and_eq_true]
    exact ⟨h0.2, List.all_eq_true.mpr ha.2⟩
  · exact nm0_is n k
theorem nm1_inj {n : Int} {i j : Nat} (hi : i < 26) (hj : j < 26) (h : nm1 n i = nm1 n j) : i = j := by
  unfold nm1 at h
  have li : (nm0 n i).length = (lngV n).toNat + 1 := by rw [len_tl]; exact nm0_len n i
  have lj : (nm0 n j).length = (lngV n).toNat + 1 := by rw [len_tl]; exact nm0_len n j
  rw [li, lj] at h
  by_cases hc : (lngV n).toNat + 1 < 8
  · rw [if_pos hc, if_pos hc] at h
    have e := congrArg tl h
    rw [tl_append, tl_append] at e
    have e2 := List.append_inj_left e (by rw [nm0_len, nm0_len])
    exact nm0_inj hi hj (str_ext e2)
  · rw [if_neg hc, if_neg hc] at h
    exact nm0_inj hi hj h
theorem nms_nodup {n : Int} {k : Nat} (hk : k ≤ 20) : (nmsL n k).Nodup := by
  unfold nmsL List.Nodup
  rw [List.pairwise_map]
  refine List.Pairwise.imp_of_mem (fun {a b} ha hb (hlt : a < b) q => ?_) (List.pairwise_lt_range (n := k))
  have := List.mem_range.mp ha
  have := List.mem_range.mp hb
  have := nm1_inj (by omega) (by omega) q
  omega
/-! the law's stacks -/
def szL (n : Int) : List Int := [1, 2, 3, 5, 20, 2 + n / 6 % 4]
def szV (n : Int) : Int := (szL n).getD (n % 6).toNat 0
def hiL (c : Int) : List Int := [1, 2, 3, 20, 1 + c / 5 % 20]
def hiV (c : Int) : Int := (hiL c).getD (c % 5).toNat 0
def wtL (c : Int) : List Int := [1 + c / 100 % 9, 10 + c / 100 % 30, 1000000000000, 500000000000, 20]
def wtV (c : Int) : Int := (wtL c).getD (c / 20 % 5).toNat 0
def stL : List Int := [1, 1, 1000000000]
def stV (c : Int) : Int := c / 700 % 9 * stL.getD (c / 9 % 3).toNat 0
def plV (ns : List Int) (t : Int) : Nat → Int
  | 0 => nb ns t / 30 % 40
  | i + 1 => plV ns t i + 1 + stV (nb ns (t + 2 + (i : Int)))
def row1 (ns : List Int) (t : Int) (i : Nat) : Row := (nm1 (nb ns (t + 1)) i, plV ns t i, hiV (nb ns (t + 2 + (i : Int))), wtV (nb ns (t + 2 + (i : Int))))
def rows0 (ns : List Int) (t : Int) : List Row := (List.range (szV (nb ns t)).toNat).map (row1 ns t)
def fstV (ns : List Int) (t : Int) : Nat := (nb ns t / 1200 % szV (nb ns t)).toNat
def rowsL (ns : List Int) (t : Int) : List Row := (rows0 ns t).drop (fstV ns t) ++ (rows0 ns t).take (fstV ns t)
theorem sz_in (n : Int) : 1 ≤ szV n ∧ szV n ≤ 20 := by
  have h0 : 0 ≤ n % 6 := Int.emod_nonneg _ (by decide)
  have h1 : n % 6 < 6 := Int.emod_lt_of_pos _ (by decide)
  have hm := getD_in (0 : Int) (szL n) (n % 6).toNat (by show (n % 6).toNat < 6; omega)
  have h : ∀ x ∈ szL n, 1 ≤ x ∧ x ≤ 20 := by
    intro x hx
    simp only [szL, List.mem_cons, List.not_mem_nil, or_false] at hx
    have a0 : 0 ≤ n / 6 % 4 := Int.emod_nonneg _ (by decide)
    have a1 : n / 6 % 4 < 4 := Int.emod_lt_of_pos _ (by decide)
    omega
  exact h _ hm
theorem hi_in (c : Int) : 1 ≤ hiV c ∧ hiV c ≤ 20 := by
  have h0 : 0 ≤ c % 5 := Int.emod_nonneg _ (by decide)
  have h1 : c % 5 < 5 := Int.emod_lt_of_pos _ (by decide)
  have hm := getD_in (0 : Int) (hiL c) (c % 5).toNat (by show (c % 5).toNat < 5; omega)
  have h : ∀ x ∈ hiL c, 1 ≤ x ∧ x ≤ 20 := by
    intro x hx
    simp only [hiL, List.mem_cons, List.not_mem_nil, or_false] at hx
    have a0 : 0 ≤ c / 5 % 20 := Int.emod_nonneg _ (by decide)
    have a1 : c / 5 % 20 < 20 := Int.emod_lt_of_pos _ (by decide)
    omega
  exact h _ hm
theorem wt_in (c : Int) : 1 ≤ wtV c ∧ wtV c ≤ 1000000000000 := by
  have h0 : 0 ≤ c / 20 % 5 := Int.emod_nonneg _ (by decide)
  have h1 : c / 20 % 5 < 5 := Int.emod_lt_of_pos _ (by decide)
  have hm := getD_in (0 : Int) (wtL c) (c / 20 % 5).toNat (by show (c / 20 % 5).toNat < 5; omega)
  have h : ∀ x ∈ wtL c, 1 ≤ x ∧ x ≤ 1000000000000 := by
    intro x hx
    simp only [wtL, List.mem_cons, List.not_mem_nil, or_false] at hx
    have a0 : 0 ≤ c / 100 % 9 := Int.emod_nonneg _ (by decide)
    have a1 : c / 100 % 9 < 9 := Int.emod_lt_of_pos _ (by decide)
    have b0 : 0 ≤ c / 100 % 30 := Int.emod_nonneg _ (by decide)
    have b1 : c / 100 % 30 < 30 := Int.emod_lt_of_pos _ (by decide)
    omega
  exact h _ hm
theorem st_in (c : Int) : 0 ≤ stV c ∧ stV c ≤ 8000000000 := by
  have h0 : 0 ≤ c / 9 % 3 := Int.emod_nonneg _ (by decide)
  have h1 : c / 9 % 3 < 3 := Int.emod_lt_of_pos _ (by decide)
  have hm := getD_in (0 : Int) stL (c / 9 % 3).toNat (by show (c / 9 % 3).toNat < 3; omega)
  have h : ∀ x ∈ stL, 1 ≤ x ∧ x ≤ 1000000000 := by decide
  have := h _ hm
  have a0 : 0 ≤ c / 700 % 9 := Int.emod_nonneg _ (by decide)
  have a1 : c / 700 % 9 < 9 := Int.emod_lt_of_pos _ (by decide)
  unfold stV
  have e1 : 0 ≤ c / 700 % 9 * stL.getD (c / 9 % 3).toNat 0 := Int.mul_nonneg a0 (by omega)
  have e2 : c / 700 % 9 * stL.getD (c / 9 % 3).toNat 0 ≤ 8 * 1000000000 := Int.mul_le_mul (by omega) this.2 (by omega) (by decide)
  omega
theorem pl_in (ns : List Int) (t : Int) : ∀ i : Nat, 0 ≤ plV ns t i ∧ plV ns t i ≤ 40 + 8000000001 * (i : Int)
  | 0 => by
    have a0 : 0 ≤ nb ns t / 30 % 40 := Int.emod_nonneg _ (by decide)
    have a1 : nb ns t / 30 % 40 < 40 := Int.emod_lt_of_pos _ (by decide)
    unfold plV
    omega
  | i + 1 => by
    have h := pl_in ns t i
    have h2 := st_in (nb ns (t + 2 + (i : Int)))
    unfold plV
    omega
theorem pl_lt (ns : List Int) (t : Int) {i : Nat} : ∀ {j : Nat}, i < j → plV ns t i < plV ns t j
  | j + 1, h => by
    have h2 := st_in (nb ns (t + 2 + (j : Int)))
    have e : plV ns t (j + 1) = plV ns t j + 1 + stV (nb ns (t + 2 + (j : Int))) := rfl
    rcases Nat.lt_or_ge i j with q | q
    · have := pl_lt ns t q
      omega
    · have : i = j := by omega
      subst this
      omega
theorem rows0_len (ns : List Int) (t : Int) : (rows0 ns t).length = (szV (nb ns t)).toNat := by
  unfold rows0
  rw [List.length_map, List.length_range]
theorem rows0_ok (ns : List Int) (t : Int) : RowsOk (rows0 ns t) := by
  have hs := sz_in (nb ns t)
  have hl := rows0_len ns t
  refine ⟨by omega, by omega, fun r hr => ?_, ?_, ?_⟩
  · obtain ⟨i, hi, rfl⟩ := List.mem_map.mp hr
    have hi' := List.mem_range.mp hi
    have hp := pl_in ns t i
    have hh := hi_in (nb ns (t + 2 + (i : Int)))
    have hw := wt_in (nb ns (t + 2 + (i : Int)))
    exact ⟨nm1_is _ _, hp.1, by show plV ns t i ≤ _; omega, hh.1, hh.2, hw.1, hw.2⟩
  · have : (rows0 ns t).map (fun r => r.1) = nmsL (nb ns (t + 1)) (szV (nb ns t)).toNat := by
      unfold rows0 nmsL
      rw [List.map_map]
      rfl
    rw [this]
    exact nms_nodup (by omega)
  · unfold rows0 List.Nodup
    rw [List.map_map, List.pairwise_map]
    refine List.Pairwise.imp_of_mem (fun {a b} ha hb (hlt : a < b) q => ?_) (List.pairwise_lt_range (n := (szV (nb ns t)).toNat))
    have h1 := pl_lt ns t hlt
    have q2 : plV ns t a = plV ns t b := q
    omega
theorem rot_ok {rs : List Row} (h : RowsOk rs) (k : Nat) : RowsOk (rs.drop k ++ rs.take k) := by
  have hp : (rs.drop k ++ rs.take k).Perm rs := by
    have := List.perm_append_comm (l₁ := rs.drop k) (l₂ := rs.take k)
    rwa [List.take_append_drop] at this
  have hl := hp.length_eq
  exact ⟨by rw [hl]; exact h.l0, by rw [hl]; exact h.l1, fun r hr => h.ok r (hp.mem_iff.mp hr), (hp.map _).nodup_iff.mpr h.nn, (hp.map _).nodup_iff.mpr h.np⟩
theorem rowsL_ok (ns : List Int) (t : Int) : RowsOk (rowsL ns t) := rot_ok (rows0_ok ns t) _

def R_l_names : List D → D → Prop := fun ds d => ∃ n k, ds = [.int n, .int k] ∧ (0 ≤ k ∧ k ≤ 20) ∧ d = .lst ((nmsL n k.toNat).map D.str)
theorem ln_l_names {ds : List D} {d : D} (h : R_l_names ds d) : ds.length = 2 := by
  obtain ⟨n, k, rfl, _⟩ := h
  rfl
def R_l_stacks : List D → D → Prop := fun ds d => ∃ ns t, ds = [.scr ns, .int t] ∧ (0 ≤ t ∧ t ≤ 10000) ∧ ns.length ≤ 63 ∧ d = .lst ((rowsL ns t).map rowD)
theorem ln_l_stacks {ds : List D} {d : D} (h : R_l_stacks ds d) : ds.length = 2 := by
  obtain ⟨n, k, rfl, _⟩ := h
  rfl
def sp_l_names (K : PySem.W.Frag) (A : XA) : Sp := spD K R_l_names
def sp_l_stacks (K : PySem.W.Frag) (A : XA) : Sp := spD K R_l_stacks

/-! what the law keeps of its own -/
def keyR (rs : List Row) : List Key := rs.map fun r => .inr r.1
def ownD (rs : List Row) (vs : List D) : D := .dic [(.inr "told", .lst (rs.map rowD)), (.inr "piles", .dic ((keyR rs).zip vs))]
structure OwnAt (M : Sto) (rs : List Row) (pa : List Addr) (ps : List (List (Str × Int))) : Prop where
  ll : pa.length = rs.length
  lp : ps.length = rs.length
  nd : pa.Nodup
  pil : ∀ i, i < pa.length → M (pa.getD i 0) = some (.lst ((ps.getD i []).map boxD))
def wgL (c : Int) : List Int := [1 + c / 4 % 9, 1 + c / 4 % 9, 1, 500000000000 + c / 4 % 3 - 1]
def wgV (c : Int) : Int := (wgL c).getD (c % 4).toNat 0
def R_l_weight : List D → D → Prop := fun ds d => ∃ c, ds = [.int c] ∧ d = .int (wgV c)
theorem ln_l_weight {ds : List D} {d : D} (h : R_l_weight ds d) : ds.length = 1 := by
  obtain ⟨c, rfl, _⟩ := h
  rfl
def ownP (M : Sto) (rs : List Row) (ps : List (List (Str × Int))) : Res → Sto → Prop := fun r M' => ∃ pa, r = .ok (ownD rs (pa.map D.ptr)) ∧ OwnAt M' rs pa ps ∧ Ext M M' ∧ ∀ a ∈ pa, M a = none
def R_l_new : RelM := fun ds M P => ∃ rs : List Row, ds = [.lst (rs.map rowD)] ∧ RowsOk rs ∧ P = ownP M rs (rs.map fun _ => [])
theorem ln_l_new {ds : List D} {M : Sto} {P : Res → Sto → Prop} (h : R_l_new ds M P) : ds.length = 1 := by
  obtain ⟨rs, rfl, _⟩ := h
  rfl
def R_l_kept : RelM := fun ds M P => ∃ rs pa ps, ds = [ownD rs (pa.map D.ptr)] ∧ RowsOk rs ∧ OwnAt M rs pa ps ∧ P = ownP M rs ps
theorem ln_l_kept {ds : List D} {M : Sto} {P : Res → Sto → Prop} (h : R_l_kept ds M P) : ds.length = 1 := by
  obtain ⟨rs, pa, ps, rfl, _⟩ := h
  rfl
def R_l_of : List D → D → Prop := fun ds d => ∃ rs vs n t, ds = [ownD rs vs, .str n] ∧ rs.length ≤ 20 ∧ find rs n = some t ∧ d = rowD (n, t)
theorem ln_l_of {ds : List D} {d : D} (h : R_l_of ds d) : ds.length = 2 := by
  obtain ⟨rs, vs, n, t, rfl, _⟩ := h
  rfl
/-- the stack on which a box lies -/
def whP (b : Str) (p : Key × D) : Option D := match p with
  | (k, .lst l) => if (l.any fun e => match e with | .tup (.str c :: _) => decide (c = b) | _ => false) = true then some (keyD k) else none
  | _ => none
def whD (rs : List Row) (ps : List (List (Str × Int))) (b : Str) : D := (firstP (whP b) ((keyR rs).zip (ps.map pileD))).getD .non
def R_l_where : List D → D → Prop := fun ds d => ∃ rs ps b, ds = [ownD rs (ps.map pileD), .str b] ∧ (∀ p ∈ ps, p.length ≤ 1000) ∧ d = whD rs ps b
theorem ln_l_where {ds : List D} {d : D} (h : R_l_where ds d) : ds.length = 2 := by
  obtain ⟨rs, ps, b, rfl, _⟩ := h
  rfl

def sp_l_weight (K : PySem.W.Frag) (A : XA) : Sp := spD K R_l_weight
def sp_l_new (K : PySem.W.Frag) (A : XA) : Sp := spM K R_l_new
def sp_l_kept (K : PySem.W.Frag) (A : XA) : Sp := spM K R_l_kept
def sp_l_of (K : PySem.W.Frag) (A : XA) : Sp := spD K R_l_of
def sp_l_where (K : PySem.W.Frag) (A : XA) : Sp := spD K R_l_where

def pileOf (rs : List Row) (ps : List (List (Str × Int))) (n : Str) : List (Str × Int) := ps.getD (idx rs n) []
def mayB (rs : List Row) (ps : List (List (Str × Int))) (b : Str) (w : Int) (n : Str) (t : Int × Int × Int) : Bool := (isNon (whD rs ps b) && decide (((pileOf rs ps n).length : Int) < t.2.1)) && decide (wsum (pileOf rs ps n) + w ≤ t.2.2)
def R_l_may : List D → D → Prop := fun ds d => ∃ rs ps b w n t, ds = [ownD rs (ps.map pileD), .str b, .int w, .str n] ∧ rs.length ≤ 20 ∧ ps.length = rs.length ∧ (∀ p ∈ ps, p.length ≤ 1000) ∧ find rs n = some t ∧ d = .bl (mayB rs ps b w n t)
theorem ln_l_may {ds : List D} {d : D} (h : R_l_may ds d) : ds.length = 4 := by
  obtain ⟨rs, ps, b, w, n, t, rfl, _⟩ := h
  rfl
def sp_l_may (K : PySem.W.Frag) (A : XA) : Sp := spD K R_l_may

structure InvL (A : XA) (M : Sto) (x L : Addr) (la pa : List Addr) (s : Stk) (k : Nat) : Prop where
  st : StkAt A.c_Stacks M x L la s
  own : OwnAt M s.told pa s.piles
  full : StkFull s
  dj : ∀ a ∈ pa, a ∉ x :: L :: la
  bx : ∀ n t, tri s n = some t → ∀ p ∈ pileAt s n, 0 ≤ p.2 ∧ p.2 ≤ 1000000000000
  ly : s.lying.length ≤ k
structure BxOk (bs : List Str) : Prop where
  l12 : bs.length = 12
  nm : ∀ b ∈ bs, nmS b = true
def R_l_deed (A : XA) : RelM := fun ds M P => ∃ x L la pa s k bs c, ds = [.ptr x, ownD s.told (pa.map D.ptr), .lst (bs.map D.str), .int c] ∧ InvL A M x L la pa s k ∧ k ≤ 800 ∧ BxOk bs ∧ P = fun r M' => r = .ok (.bl true) ∧ ∃ s', s'.told = s.told ∧ InvL A M' x L la pa s' (k + 1) ∧ Same M M' (x :: L :: (la ++ pa))
theorem ln_l_deed {A : XA} {ds : List D} {M : Sto} {P : Res → Sto → Prop} (h : R_l_deed A ds M P) : ds.length = 4 := by
  obtain ⟨x, L, la, pa, s, k, bs, c, rfl, _⟩ := h
  rfl
def R_l_right (A : XA) : List D → D → Prop := fun ds d => ∃ s bs c, ds = [stkD A.c_Stacks s, ownD s.told (s.piles.map pileD), .lst (bs.map D.str), .int c] ∧ StkOk s ∧ StkFull s ∧ (∀ n t, tri s n = some t → ∀ p ∈ pileAt s n, 0 ≤ p.2 ∧ p.2 ≤ 1000000000000) ∧ BxOk bs ∧ d = .bl true
theorem ln_l_right {A : XA} {ds : List D} {d : D} (h : R_l_right A ds d) : ds.length = 4 := by
  obtain ⟨s, bs, c, rfl, _⟩ := h
  rfl
def R_law : RelM := fun ds M P => ∃ ns : List Int, ds = [.scr ns] ∧ ns.length ≤ 63 ∧ M = (fun _ => none) ∧ P = fun r M' => r = .ok (.bl true)
theorem ln_law {ds : List D} {M : Sto} {P : Res → Sto → Prop} (h : R_law ds M P) : ds.length = 1 := by
  obtain ⟨c, rfl, _⟩ := h
  rfl
def sp_l_deed (K : PySem.W.Frag) (A : XA) : Sp := spM K (R_l_deed A)
def sp_l_right (K : PySem.W.Frag) (A : XA) : Sp := spD K (R_l_right A)
def sp_law (K : PySem.W.Frag) : Sp := spM K R_law
section
variable {K : PySem.W.Frag} {A : XA} {vs : List V} {H : Hp} {Q : VK} {E : XK}
theorem len_l_names (h : sp_l_names K A vs H Q E) : vs.length = 2 := spD_len (fun _ _ => ln_l_names) h
theorem len_l_stacks (h : sp_l_stacks K A vs H Q E) : vs.length = 2 := spD_len (fun _ _ => ln_l_stacks) h
theorem len_l_weight (h : sp_l_weight K A vs H Q E) : vs.length = 1 := spD_len (fun _ _ => ln_l_weight) h
theorem len_l_new (h : sp_l_new K A vs H Q E) : vs.length = 1 := spM_len (fun _ _ _ => ln_l_new) h
theorem len_l_kept (h : sp_l_kept K A vs H Q E) : vs.length = 1 := spM_len (fun _ _ _ => ln_l_kept) h
theorem len_l_of (h : sp_l_of K A vs H Q E) : vs.length = 2 := spD_len (fun _ _ => ln_l_of) h
theorem len_l_where (h : sp_l_where K A vs H Q E) : vs.length = 2 := spD_len (fun _ _ => ln_l_where) h
theorem len_l_may (h : sp_l_may K A vs H Q E) : vs.length = 4 := spD_len (fun _ _ => ln_l_may) h
theorem len_l_deed (h : sp_l_deed K A vs H Q E) : vs.length = 4 := spM_len (fun _ _ _ => ln_l_deed) h
theorem len_l_right (h : sp_l_right K A vs H Q E) : vs.length = 4 := spD_len (fun _ _ => ln_l_right) h
theorem len_law (h : sp_law K vs H Q E) : vs.length = 1 := spM_len (fun _ _ _ => ln_law) h
end

def rTx (f : Str → Bool) : V → List V → Hp → VK → Prop := fun x xs H Q => ∃ a, x = .str a ∧ xs = [] ∧ True ∧ Q (.bl (f a)) H
abbrev s_is_name : Stmt := (top 15)
abbrev nm_is_name : List Str := ["thing"]
theorem sc_is_name : FnScope nm_is_name ["thing"] (defScope s_is_name) := ⟨rfl, rfl, rfl, by decide +kernel, rfl, by decide +kernel, by decide +kernel⟩
def t_is_name (K : PySem.W.Frag) (A : XA) : TS := (tSeq (tIfS (tOr (tNot (tB (tCB (rIsi K) (tCons (tVar 0) (tCons (tC (.ty "str")) tNil))))) (tTest (tOp (gGt) (tCB (rLen K) (tCons (tVar 0) tNil)) (tC (.int 8))))) (tRet (tC (.bl false))) tNext)
  (tRet (tAndV (tM0 (rTx Txt.islower) (tVar 0)) (tAndV (tM0 (rTx Txt.isalpha) (tVar 0)) (tM0 (rTx Txt.isascii) (tVar 0))))))

abbrev s_is_among : Stmt := (top 16)
abbrev nm_is_among : List Str := ["thing", "least", "most"]
theorem sc_is_among : FnScope nm_is_among ["thing", "least", "most"] (defScope s_is_among) := ⟨rfl, rfl, rfl, by decide +kernel, rfl, by decide +kernel, by decide +kernel⟩
def t_is_among (K : PySem.W.Frag) (A : XA) : TS := (tSeq (tIfS (tOr (tNot (tB (tCB (rIsi K) (tCons (tVar 0) (tCons (tC (.ty "int")) tNil))))) (tB (tCB (rIsi K) (tCons (tVar 0) (tCons (tC (.ty "bool")) tNil))))) (tRet (tC (.bl false))) tNext)
  (tRet (tChain (gLe) (gLe) (tVar 1) (tVar 0) (tVar 2))))

abbrev s_is_stack : Stmt := (top 22)
abbrev nm_is_stack : List Str := ["thing", "name", "place", "most", "heaviest"]
theorem sc_is_stack : FnScope nm_is_stack ["thing"] (defScope s_is_stack) := ⟨rfl, rfl, rfl, by decide +kernel, rfl, by decide +kernel, by decide +kernel⟩
def t_is_stack (K : PySem.W.Frag) (A : XA) : TS := (tSeq (tIfS (tOr (tNot (tB (tCB (rIsi K) (tCons (tVar 0) (tCons (tC (.ty "tuple")) tNil))))) (tTest (tOp (gNe K) (tCB (rLen K) (tCons (tVar 0) tNil)) (tC (.int 4))))) (tRet (tC (.bl false))) tNext)
  (tSeq (tAsg (tVar 0) (gTup K 4 (gCons (gName 1) (gCons (gName 2) (gCons (gName 3) (gCons (gName 4) gNil))))))
  (tRet (tAndV (tCall (sp_is_name K A) [] E0 (tCons (tVar 1) tNil)) (tAndV (tCall (sp_is_among K A) [] E0 (tCons (tVar 2) (tCons (tC (.int 0)) (tCons (tC (.int 1000000000000)) tNil)))) (tAndV (tCall (sp_is_among K A) [] E0 (tCons (tVar 3) (tCons (tC (.int 1)) (tCons (tC (.int 20)) tNil)))) (tCall (sp_is_among K A) [] E0 (tCons (tVar 4) (tCons (tC (.int 1)) (tCons (tC (.int 1000000000000)) tNil))))))))))

abbrev s_are_stacks : Stmt := (top 21)
abbrev nm_are_stacks : List Str := ["thing", "row"]
theorem sc_are_stacks : FnScope nm_are_stacks ["thing"] (defScope s_are_stacks) := ⟨rfl, rfl, rfl, by decide +kernel, rfl, by decide +kernel, by decide +kernel⟩
def t_are_stacks (K : PySem.W.Frag) (A : XA) : TS := (tSeq (tIfS (tOr (tNot (tB (tCB (rIsi K) (tCons (tVar 0) (tCons (tC (.ty "list")) tNil))))) (tNot (tTest (tChain (gLe) (gLe) (tC (.int 1)) (tCB (rLen K) (tCons (tVar 0) tNil)) (tC (.int 20)))))) (tRet (tC (.bl false))) tNext)
  (tSeq (tIfS (tNot (tB (tCB (rAll K) (tCons (tLc (iList K (tVar 0)) (gName 1) tYes (tCall (sp_is_stack K A) [] E0 (tCons (tVar 1) tNil)) [1]) tNil)))) (tRet (tC (.bl false))) tNext)
  (tRet (tChain (gEq K) (gEq K) (tLenSc (iList K (tVar 0)) (gName 1) tYes (tOp (gIx K) (tVar 1) (tC (.int 0))) [1]) (tCB (rLen K) (tCons (tVar 0) tNil)) (tLenSc (iList K (tVar 0)) (gName 1) tYes (tOp (gIx K) (tVar 1) (tC (.int 1))) [1])))))

abbrev s_Stacks_init : Stmt := (inClass (top 20) 0)
abbrev nm_Stacks_init : List Str := ["self", "stacks", "row", "name"]
theorem sc_Stacks_init : FnScope nm_Stacks_init ["self", "stacks"] (defScope s_Stacks_init) := ⟨rfl, rfl, rfl, by decide +kernel, rfl, by decide +kernel, by decide +kernel⟩
def t_Stacks_init (K : PySem.W.Frag) (A : XA) (X : XK) : TS := (tSeq (tIfS (tNot (tB (tCall (sp_are_stacks K A) [] E0 (tCons (tVar 1) tNil)))) (tRaise0 A.c_BadStack X) tNext)
  (tSeq (sFld K (tVar 0) (tDc (iList K (tVar 1)) (gName 2) tYes (tOp (gIx K) (tVar 2) (tC (.int 0))) (tVar 2) [2]) "_told")
  (tSeq (sFld K (tVar 0) (tLockE (tDc (iKeys (tFld K (tVar 0) "_told")) (gName 3) tYes (tVar 3) (tLst tNil) [3])) "_piles")
  (sFld K (tVar 0) (tDNewK) "_lying"))))

abbrev s_Stacks__ask_stack : Stmt := (inClass (top 20) 13)
abbrev nm_Stacks__ask_stack : List Str := ["self", "thing"]
theorem sc_Stacks__ask_stack : FnScope nm_Stacks__ask_stack ["self", "thing"] (defScope s_Stacks__ask_stack) := ⟨rfl, rfl, rfl, by decide +kernel, rfl, by decide +kernel, by decide +kernel⟩
def t_Stacks__ask_stack (K : PySem.W.Frag) (A : XA) (X : XK) : TS := (tIfS (tOr (tNot (tB (tCall (sp_is_name K A) [] E0 (tCons (tVar 1) tNil)))) (tB (tDNotIn (tVar 1) (tFld K (tVar 0) "_told")))) (tRaise0 A.c_NoStack X) tNext)

abbrev s_Stacks_place_of : Stmt := (inClass (top 20) 2)
abbrev nm_Stacks_place_of : List Str := ["self", "stack"]
theorem sc_Stacks_place_of : FnScope nm_Stacks_place_of ["self", "stack"] (defScope s_Stacks_place_of) := ⟨rfl, rfl, rfl, by decide +kernel, rfl, by decide +kernel, by decide +kernel⟩
def t_Stacks_place_of (K : PySem.W.Frag) (A : XA) (X : XK) : TS := (tSeq (tDrop (tMeth A.c_Stacks "_ask_stack" (sp_Stacks__ask_stack K A) [] X (tVar 0) (tCons (tVar 1) tNil)))
  (tRet (tOp (gIx K) (tDGet (tFld K (tVar 0) "_told") (tVar 1)) (tC (.int 1)))))

abbrev s_Stacks_high : Stmt := (inClass (top 20) 4)
abbrev nm_Stacks_high : List Str := ["self", "stack"]
theorem sc_Stacks_high : FnScope nm_Stacks_high ["self", "stack"] (defScope s_Stacks_high) := ⟨rfl, rfl, rfl, by decide +kernel, rfl, by decide +kernel, by decide +kernel⟩
def t_Stacks_high (K : PySem.W.Frag) (A : XA) (X : XK) : TS := (tSeq (tDrop (tMeth A.c_Stacks "_ask_stack" (sp_Stacks__ask_stack K A) [] X (tVar 0) (tCons (tVar 1) tNil)))
  (tRet (tOp (gIx K) (tDGet (tFld K (tVar 0) "_told") (tVar 1)) (tC (.int 2)))))

abbrev s_Stacks_weight : Stmt := (inClass (top 20) 5)
abbrev nm_Stacks_weight : List Str := ["self", "stack"]
theorem sc_Stacks_weight : FnScope nm_Stacks_weight ["self", "stack"] (defScope s_Stacks_weight) := ⟨rfl, rfl, rfl, by decide +kernel, rfl, by decide +kernel, by decide +kernel⟩
def t_Stacks_weight (K : PySem.W.Frag) (A : XA) (X : XK) : TS := (tSeq (tDrop (tMeth A.c_Stacks "_ask_stack" (sp_Stacks__ask_stack K A) [] X (tVar 0) (tCons (tVar 1) tNil)))
  (tRet (tOp (gIx K) (tDGet (tFld K (tVar 0) "_told") (tVar 1)) (tC (.int 3)))))

abbrev s_Stacks_boxes : Stmt := (inClass (top 20) 6)
abbrev nm_Stacks_boxes : List Str := ["self", "stack"]
theorem sc_Stacks_boxes : FnScope nm_Stacks_boxes ["self", "stack"] (defScope s_Stacks_boxes) := ⟨rfl, rfl, rfl, by decide +kernel, rfl, by decide +kernel, by decide +kernel⟩
def t_Stacks_boxes (K : PySem.W.Frag) (A : XA) : TS := (tSeq (tDrop (tMeth A.c_Stacks "_ask_stack" (sp_Stacks__ask_stack K A) [] E0 (tVar 0) (tCons (tVar 1) tNil)))
  (tRet (tCB (rListOf K) (tCons (tDGet (tFld K (tVar 0) "_piles") (tVar 1)) tNil))))

abbrev s_Stacks_names : Stmt := (inClass (top 20) 1)
abbrev nm_Stacks_names : List Str := ["self"]
theorem sc_Stacks_names : FnScope nm_Stacks_names ["self"] (defScope s_Stacks_names) := ⟨rfl, rfl, rfl, by decide +kernel, rfl, by decide +kernel, by decide +kernel⟩
def t_Stacks_names (K : PySem.W.Frag) (A : XA) : TS := (tRet (tCB (rSortedD K) (tCons (tFld K (tVar 0) "_told") tNil)))

abbrev s_Stacks_where : Stmt := (inClass (top 20) 7)
abbrev nm_Stacks_where : List Str := ["self", "box"]
theorem sc_Stacks_where : FnScope nm_Stacks_where ["self", "box"] (defScope s_Stacks_where) := ⟨rfl, rfl, rfl, by decide +kernel, rfl, by decide +kernel, by decide +kernel⟩
def t_Stacks_where (K : PySem.W.Frag) (A : XA) (X : XK) : TS := (tSeq (tIfS (tNot (tB (tMeth A.c_Stacks "_lies" (sp_Stacks__lies K A) [] E0 (tVar 0) (tCons (tVar 1) tNil)))) (tRaise0 A.c_NoBox X) tNext)
  (tRet (tDGet (tFld K (tVar 0) "_lying") (tVar 1))))

abbrev s_Stacks_is_top : Stmt := (inClass (top 20) 8)
abbrev nm_Stacks_is_top : List Str := ["self", "box", "pile"]
theorem sc_Stacks_is_top : FnScope nm_Stacks_is_top ["self", "box"] (defScope s_Stacks_is_top) := ⟨rfl, rfl, rfl, by decide +kernel, rfl, by decide +kernel, by decide +kernel⟩
def t_Stacks_is_top (K : PySem.W.Frag) (A : XA) (X : XK) : TS := (tSeq (tAsg (tDGet (tFld K (tVar 0) "_piles") (tMeth A.c_Stacks "where" (sp_Stacks_where K A) [] X (tVar 0) (tCons (tVar 1) tNil))) (gName 2))
  (tRet (tOp (gEq K) (tOp (gIx K) (tOp (gIx K) (tVar 2) (tUn (rU fun i => .int (-i)) (tC (.int 1)))) (tC (.int 0))) (tVar 1))))

abbrev s_Stacks__lies : Stmt := (inClass (top 20) 12)
abbrev nm_Stacks__lies : List Str := ["self", "thing"]
theorem sc_Stacks__lies : FnScope nm_Stacks__lies ["self", "thing"] (defScope s_Stacks__lies) := ⟨rfl, rfl, rfl, by decide +kernel, rfl, by decide +kernel, by decide +kernel⟩
def t_Stacks__lies (K : PySem.W.Frag) (A : XA) : TS := (tRet (tAndV (tCall (sp_is_name K A) [] E0 (tCons (tVar 1) tNil)) (tDIn (tVar 1) (tFld K (tVar 0) "_lying"))))

abbrev s_Stacks__ask_space : Stmt := (inClass (top 20) 14)
abbrev nm_Stacks__ask_space : List Str := ["self", "weight", "stack", "_", "most", "heaviest", "pile", "lying"]
theorem sc_Stacks__ask_space : FnScope nm_Stacks__ask_space ["self", "weight", "stack"] (defScope s_Stacks__ask_space) := ⟨rfl, rfl, rfl, by decide +kernel, rfl, by decide +kernel, by decide +kernel⟩
def t_Stacks__ask_space (K : PySem.W.Frag) (A : XA) (X : XK) : TS := (tSeq (tAsg (tDGet (tFld K (tVar 0) "_told") (tVar 2)) (gTup K 4 (gCons (gName 3) (gCons (gName 3) (gCons (gName 4) (gCons (gName 5) gNil))))))
  (tSeq (tAsg (tDGet (tFld K (tVar 0) "_piles") (tVar 2)) (gName 6))
  (tSeq (tIfS (tTest (tOp (gGe) (tCB (rLen K) (tCons (tVar 6) tNil)) (tVar 4))) (tRaise0 A.c_TooHigh X) tNext)
  (tIfS (tTest (tOp (gGt) (tOp (gAdd K) (tCB (rSum K) (tCons (tLc (iList K (tVar 6)) (gTup K 2 (gCons (gName 3) (gCons (gName 7) gNil))) tYes (tVar 7) [3, 7]) tNil)) (tVar 1)) (tVar 5))) (tRaise0 A.c_TooHeavy X) tNext))))

abbrev s_Stacks_put : Stmt := (inClass (top 20) 9)
abbrev nm_Stacks_put : List Str := ["self", "box", "weight", "stack"]
theorem sc_Stacks_put : FnScope nm_Stacks_put ["self", "box", "weight", "stack"] (defScope s_Stacks_put) := ⟨rfl, rfl, rfl, by decide +kernel, rfl, by decide +kernel, by decide +kernel⟩
def t_Stacks_put (K : PySem.W.Frag) (A : XA) (X : XK) : TS := (tSeq (tIfS (tNot (tB (tCall (sp_is_name K A) [] E0 (tCons (tVar 1) tNil)))) (tRaise0 A.c_BadName X) tNext)
  (tSeq (tIfS (tNot (tB (tCall (sp_is_among K A) [] E0 (tCons (tVar 2) (tCons (tC (.int 1)) (tCons (tC (.int 1000000000000)) tNil)))))) (tRaise0 A.c_BadNumber X) tNext)
  (tSeq (tDrop (tMeth A.c_Stacks "_ask_stack" (sp_Stacks__ask_stack K A) [] X (tVar 0) (tCons (tVar 3) tNil)))
  (tSeq (tIfS (tB (tMeth A.c_Stacks "_lies" (sp_Stacks__lies K A) [] E0 (tVar 0) (tCons (tVar 1) tNil))) (tRaise0 A.c_Twice X) tNext)
  (tSeq (tDrop (tMeth A.c_Stacks "_ask_space" (sp_Stacks__ask_space K A) [] X (tVar 0) (tCons (tVar 2) (tCons (tVar 3) tNil))))
  (tSeq (tDrop (tBM K "list" rAppend (tDGet (tFld K (tVar 0) "_piles") (tVar 3)) (tCons (tTup (tCons (tVar 1) (tCons (tVar 2) tNil))) tNil)))
  (sDPut (tFld K (tVar 0) "_lying") (tVar 1) (tVar 3))))))))

abbrev s_Stacks_take : Stmt := (inClass (top 20) 10)
abbrev nm_Stacks_take : List Str := ["self", "stack", "box", "weight"]
theorem sc_Stacks_take : FnScope nm_Stacks_take ["self", "stack"] (defScope s_Stacks_take) := ⟨rfl, rfl, rfl, by decide +kernel, rfl, by decide +kernel, by decide +kernel⟩
def t_Stacks_take (K : PySem.W.Frag) (A : XA) (X : XK) : TS := (tSeq (tDrop (tMeth A.c_Stacks "_ask_stack" (sp_Stacks__ask_stack K A) [] X (tVar 0) (tCons (tVar 1) tNil)))
  (tSeq (tIfS (tNot (tTru2 K (tDGet (tFld K (tVar 0) "_piles") (tVar 1)))) (tRaise0 A.c_Empty X) tNext)
  (tSeq (tAsg (tBM0 K "list" rPop (tDGet (tFld K (tVar 0) "_piles") (tVar 1))) (gTup K 2 (gCons (gName 2) (gCons (gName 3) gNil))))
  (tSeq (sDDel (tFld K (tVar 0) "_lying") (tVar 2))
  (tRet (tTup (tCons (tVar 2) (tCons (tVar 3) tNil))))))))

abbrev s_Stacks_copied : Stmt := (inClass (top 20) 11)
abbrev nm_Stacks_copied : List Str := ["self", "alike", "name", "pile"]
theorem sc_Stacks_copied : FnScope nm_Stacks_copied ["self"] (defScope s_Stacks_copied) := ⟨rfl, rfl, rfl, by decide +kernel, rfl, by decide +kernel, by decide +kernel⟩
def t_Stacks_copied (K : PySem.W.Frag) (A : XA) : TS := (tSeq (tAsg (tMake A.c_Stacks (sp_Stacks_init K A) [] E0 (tCons (tSl (gSl K) (tListVals ((tFld K (tVar 0) "_told"))) tNoPart (tPart (tC (.int 1)))) tNil)) (gName 1))
  (tSeq (sFld K (tVar 1) (tFld K (tVar 0) "_told") "_told")
  (tSeq (sFld K (tVar 1) (tLockE (tDc (iItems (tFld K (tVar 0) "_piles")) (gTup K 2 (gCons (gName 2) (gCons (gName 3) gNil))) tYes (tVar 2) (tCB (rListOf K) (tCons (tVar 3) tNil)) [2, 3])) "_piles")
  (tSeq (sFld K (tVar 1) (tCB (rDictD K) (tCons (tFld K (tVar 0) "_lying") tNil)) "_lying")
  (tRet (tVar 1))))))

abbrev s_l_mixed : Stmt := (top 24)
abbrev nm_l_mixed : List Str := ["_law_cell", "_law_k", "_law_number_here"]
theorem sc_l_mixed : FnScope nm_l_mixed ["_law_cell", "_law_k"] (defScope s_l_mixed) := ⟨rfl, rfl, rfl, by decide +kernel, rfl, by decide +kernel, by decide +kernel⟩
def t_l_mixed (K : PySem.W.Frag) (A : XA) : TS := (tSeq (tAsg (tOp (gMod) (tOp (gMul) (tOp (gAdd K) (tOp (gAdd K) (tOp (gAdd K) (tOp (gMod) (tVar 0) (tC (.int 1000000007))) (tOp (gMul) (tOp (gMul) (tC (.int 7919)) (tVar 1)) (tVar 1))) (tOp (gMul) (tC (.int 31)) (tVar 1))) (tC (.int 17))) (tC (.int 48271))) (tC (.int 2147483647))) (gName 2))
  (tRet (tOp (gFdv) (tOp (gMod) (tOp (gMul) (tVar 2) (tOp (gAdd K) (tOp (gMod) (tVar 2) (tC (.int 65521))) (tC (.int 16807)))) (tC (.int 2147483629))) (tC (.int 4)))))

abbrev s_l_number : Stmt := (top 25)
abbrev nm_l_number : List Str := ["_law_script", "_law_k", "_law_cell", "_law_time"]
theorem sc_l_number : FnScope nm_l_number ["_law_script", "_law_k"] (defScope s_l_number) := ⟨rfl, rfl, rfl, by decide +kernel, rfl, by decide +kernel, by decide +kernel⟩
def t_l_number (K : PySem.W.Frag) (A : XA) : TS := (tSeq (tAsg (tC (.int 0)) (gName 2))
  (tSeq (tIfS (tTest (tOp (gGt) (tCB (rLen K) (tCons (tVar 0) tNil)) (tC (.int 0)))) (tSeq (tAsg (tOp (gIx K) (tVar 0) (tOp (gMod) (tVar 1) (tCB (rLen K) (tCons (tVar 0) tNil)))) (gName 2))
  (tIfS (tTest (tOp (gEq K) (tOp (gMod) (tOp (gIx K) (tVar 0) (tC (.int 0))) (tC (.int 2))) (tC (.int 1)))) (tSeq (tFor (iRng1 (tCons (tCB (gMin K) (tCons (tC (.int 60)) (tCons (tOp (gFdv) (tVar 1) (tCB (rLen K) (tCons (tVar 0) tNil))) tNil))) tNil)) (gName 3) (tAsg (tOp (gFdv) (tVar 2) (tOp (gPow) (tC (.int 10)) (tC (.int 9)))) (gName 2)))
  (tRet (tOp (gMod) (tVar 2) (tOp (gPow) (tC (.int 10)) (tC (.int 9)))))) tNext)) tNext)
  (tRet (tCall (sp_l_mixed K A) [] E0 (tCons (tVar 2) (tCons (tVar 1) tNil))))))

abbrev s_l_names : Stmt := (top 26)
abbrev nm_l_names : List Str := ["_law_number_here", "_law_size", "_law_letters", "_law_base", "_law_j", "_law_long", "_law_at", "_law_signs", "_law_k", "_law_found", "_law_sign", "_law_name"]
theorem sc_l_names : FnScope nm_l_names ["_law_number_here", "_law_size"] (defScope s_l_names) := ⟨rfl, rfl, rfl, by decide +kernel, rfl, by decide +kernel, by decide +kernel⟩
def t_l_names (K : PySem.W.Frag) (A : XA) : TS := (tSeq (tAsg (tC (.str ("abcdefghijklmnopqrstuvwxyz" : Str))) (gName 2))
  (tSeq (tAsg (tM1 (rJoin K) (tC (.str ("" : Str))) (tLc (iRng1 (tCons (tC (.int 8)) tNil)) (gName 4) tYes (tOp (gIx K) (tVar 2) (tOp (gMod) (tOp (gAdd K) (tOp (gAdd K) (tVar 0) (tOp (gMul) (tC (.int 5)) (tVar 4))) (tOp (gMul) (tVar 4) (tVar 4))) (tC (.int 26)))) [4])) (gName 3))
  (tSeq (tAsg (tOp (gMod) (tOp (gFdv) (tVar 0) (tC (.int 30))) (tC (.int 8))) (gName 5))
  (tSeq (tAsg (tOp (gMod) (tOp (gFdv) (tVar 0) (tC (.int 240))) (tOp (gAdd K) (tVar 5) (tC (.int 1)))) (gName 6))
  (tSeq (tAsg (tLc (iRng1 (tCons (tVar 1) tNil)) (gName 8) tYes (tOp (gIx K) (tVar 2) (tOp (gMod) (tOp (gAdd K) (tOp (gFdv) (tVar 0) (tC (.int 2000))) (tOp (gMul) (tC (.int 3)) (tVar 8))) (tC (.int 26)))) [8]) (gName 7))
  (tSeq (tAsg (tLc (iList K (tVar 7)) (gName 10) tYes (tOp (gAdd K) (tOp (gAdd K) (tSl (gSl K) (tVar 3) tNoPart (tPart (tVar 6))) (tVar 10)) (tSl (gSl K) (tVar 3) (tPart (tVar 6)) (tPart (tVar 5)))) [10]) (gName 9))
  (tRet (tLc (iEnum K (tCons (tVar 9) tNil)) (gTup K 2 (gCons (gName 8) (gCons (gName 11) gNil))) tYes (tIf (tTest (tOp (gLt) (tCB (rLen K) (tCons (tVar 11) tNil)) (tC (.int 8)))) (tOp (gAdd K) (tVar 11) (tOp (gMulS) (tOp (gIx K) (tVar 3) (tOp (gMod) (tVar 8) (tC (.int 8)))) (tOp (gMod) (tVar 8) (tC (.int 2))))) (tVar 11)) [8, 11]))))))))

abbrev s_l_stacks : Stmt := (top 27)
abbrev nm_l_stacks : List Str := ["_law_script", "_law_at", "_law_number_here", "_law_size", "_law_names_here", "_law_place", "_law_found", "_law_k", "_law_cell", "_law_high", "_law_weight_here", "_law_first"]
theorem sc_l_stacks : FnScope nm_l_stacks ["_law_script", "_law_at"] (defScope s_l_stacks) := ⟨rfl, rfl, rfl, by decide +kernel, rfl, by decide +kernel, by decide +kernel⟩
def t_l_stacks (K : PySem.W.Frag) (A : XA) : TS := (tSeq (tAsg (tCall (sp_l_number K A) [] E0 (tCons (tVar 0) (tCons (tVar 1) tNil))) (gName 2))
  (tSeq (tAsg (tOp (gIx K) (tLst (tCons (tC (.int 1)) (tCons (tC (.int 2)) (tCons (tC (.int 3)) (tCons (tC (.int 5)) (tCons (tC (.int 20)) (tCons (tOp (gAdd K) (tC (.int 2)) (tOp (gMod) (tOp (gFdv) (tVar 2) (tC (.int 6))) (tC (.int 4)))) tNil))))))) (tOp (gMod) (tVar 2) (tC (.int 6)))) (gName 3))
  (tSeq (tAsg (tCall (sp_l_names K A) [] E0 (tCons (tCall (sp_l_number K A) [] E0 (tCons (tVar 0) (tCons (tOp (gAdd K) (tVar 1) (tC (.int 1))) tNil))) (tCons (tVar 3) tNil))) (gName 4))
  (tSeq (tAsg (tOp (gMod) (tOp (gFdv) (tVar 2) (tC (.int 30))) (tC (.int 40))) (gName 5))
  (tSeq (tAsg (tLst tNil) (gName 6))
  (tSeq (tFor (iRng1 (tCons (tVar 3) tNil)) (gName 7) (tSeq (tAsg (tCall (sp_l_number K A) [] E0 (tCons (tVar 0) (tCons (tOp (gAdd K) (tOp (gAdd K) (tVar 1) (tC (.int 2))) (tVar 7)) tNil))) (gName 8))
  (tSeq (tAsg (tOp (gIx K) (tLst (tCons (tC (.int 1)) (tCons (tC (.int 2)) (tCons (tC (.int 3)) (tCons (tC (.int 20)) (tCons (tOp (gAdd K) (tC (.int 1)) (tOp (gMod) (tOp (gFdv) (tVar 8) (tC (.int 5))) (tC (.int 20)))) tNil)))))) (tOp (gMod) (tVar 8) (tC (.int 5)))) (gName 9))
  (tSeq (tAsg (tOp (gIx K) (tLst (tCons (tOp (gAdd K) (tC (.int 1)) (tOp (gMod) (tOp (gFdv) (tVar 8) (tC (.int 100))) (tC (.int 9)))) (tCons (tOp (gAdd K) (tC (.int 10)) (tOp (gMod) (tOp (gFdv) (tVar 8) (tC (.int 100))) (tC (.int 30)))) (tCons (tOp (gPow) (tC (.int 10)) (tC (.int 12))) (tCons (tOp (gMul) (tC (.int 5)) (tOp (gPow) (tC (.int 10)) (tC (.int 11)))) (tCons (tC (.int 20)) tNil)))))) (tOp (gMod) (tOp (gFdv) (tVar 8) (tC (.int 20))) (tC (.int 5)))) (gName 10))
  (tSeq (tDrop (tBM K "list" rAppend (tVar 6) (tCons (tTup (tCons (tOp (gIx K) (tVar 4) (tVar 7)) (tCons (tVar 5) (tCons (tVar 9) (tCons (tVar 10) tNil))))) tNil)))
  (tAsg (tOp (gAdd K) (tOp (gAdd K) (tVar 5) (tC (.int 1))) (tOp (gMul) (tOp (gMod) (tOp (gFdv) (tVar 8) (tC (.int 700))) (tC (.int 9))) (tOp (gIx K) (tLst (tCons (tC (.int 1)) (tCons (tC (.int 1)) (tCons (tOp (gPow) (tC (.int 10)) (tC (.int 9))) tNil)))) (tOp (gMod) (tOp (gFdv) (tVar 8) (tC (.int 9))) (tC (.int 3)))))) (gName 5)))))))
  (tSeq (tAsg (tOp (gMod) (tOp (gFdv) (tVar 2) (tC (.int 1200))) (tVar 3)) (gName 11))
  (tRet (tOp (gAdd K) (tSl (gSl K) (tVar 6) (tPart (tVar 11)) tNoPart) (tSl (gSl K) (tVar 6) tNoPart (tPart (tVar 11))))))))))))

abbrev s_l_weight : Stmt := (top 28)
abbrev nm_l_weight : List Str := ["_law_cell"]
theorem sc_l_weight : FnScope nm_l_weight ["_law_cell"] (defScope s_l_weight) := ⟨rfl, rfl, rfl, by decide +kernel, rfl, by decide +kernel, by decide +kernel⟩
def t_l_weight (K : PySem.W.Frag) (A : XA) : TS := (tRet (tOp (gIx K) (tLst (tCons (tOp (gAdd K) (tC (.int 1)) (tOp (gMod) (tOp (gFdv) (tVar 0) (tC (.int 4))) (tC (.int 9)))) (tCons (tOp (gAdd K) (tC (.int 1)) (tOp (gMod) (tOp (gFdv) (tVar 0) (tC (.int 4))) (tC (.int 9)))) (tCons (tC (.int 1)) (tCons (tOp (gSub) (tOp (gAdd K) (tOp (gMul) (tC (.int 5)) (tOp (gPow) (tC (.int 10)) (tC (.int 11)))) (tOp (gMod) (tOp (gFdv) (tVar 0) (tC (.int 4))) (tC (.int 3)))) (tC (.int 1))) tNil))))) (tOp (gMod) (tVar 0) (tC (.int 4)))))

abbrev s_l_new : Stmt := (top 29)
abbrev nm_l_new : List Str := ["_law_told", "_law_one"]
theorem sc_l_new : FnScope nm_l_new ["_law_told"] (defScope s_l_new) := ⟨rfl, rfl, rfl, by decide +kernel, rfl, by decide +kernel, by decide +kernel⟩
def t_l_new (K : PySem.W.Frag) (A : XA) : TS := (tRet (tDisp (((tC (.str ("told" : Str))), (tVar 0)) :: ((tC (.str ("piles" : Str))), (tCB (rDictP K) (tCons (tLc (iList K (tVar 0)) (gName 1) tYes (tTup (tCons (tOp (gIx K) (tVar 1) (tC (.int 0))) (tCons (tLst tNil) tNil))) [1]) tNil))) :: [])))

abbrev s_l_kept : Stmt := (top 30)
abbrev nm_l_kept : List Str := ["_law_own", "_law_name", "_law_pile"]
theorem sc_l_kept : FnScope nm_l_kept ["_law_own"] (defScope s_l_kept) := ⟨rfl, rfl, rfl, by decide +kernel, rfl, by decide +kernel, by decide +kernel⟩
def t_l_kept (K : PySem.W.Frag) (A : XA) : TS := (tRet (tDisp (((tC (.str ("told" : Str))), (tDGet (tVar 0) (tC (.str ("told" : Str))))) :: ((tC (.str ("piles" : Str))), (tCB (rDictP K) (tCons (tLockE (tLc (iItems (tDGet (tVar 0) (tC (.str ("piles" : Str))))) (gTup K 2 (gCons (gName 1) (gCons (gName 2) gNil))) tYes (tTup (tCons (tVar 1) (tCons (tCB (rListOf K) (tCons (tVar 2) tNil)) tNil))) [1, 2])) tNil))) :: [])))

abbrev s_l_of : Stmt := (top 31)
abbrev nm_l_of : List Str := ["_law_own", "_law_stack", "_law_one"]
theorem sc_l_of : FnScope nm_l_of ["_law_own", "_law_stack"] (defScope s_l_of) := ⟨rfl, rfl, rfl, by decide +kernel, rfl, by decide +kernel, by decide +kernel⟩
def t_l_of (K : PySem.W.Frag) (A : XA) : TS := (tRet (tOp (gIx K) (tLc (iList K (tDGet (tVar 0) (tC (.str ("told" : Str))))) (gName 2) (tTest (tOp (gEq K) (tOp (gIx K) (tVar 2) (tC (.int 0))) (tVar 1))) (tVar 2) [2]) (tC (.int 0))))

abbrev s_l_where : Stmt := (top 32)
abbrev nm_l_where : List Str := ["_law_own", "_law_box", "_law_name", "_law_pile", "_law_one"]
theorem sc_l_where : FnScope nm_l_where ["_law_own", "_law_box"] (defScope s_l_where) := ⟨rfl, rfl, rfl, by decide +kernel, rfl, by decide +kernel, by decide +kernel⟩
def t_l_where (K : PySem.W.Frag) (A : XA) : TS := (tSeq (tLock (tFor (iItems (tDGet (tVar 0) (tC (.str ("piles" : Str))))) (gTup K 2 (gCons (gName 2) (gCons (gName 3) gNil))) (tIfS (tTest (tOp (gIn K) (tVar 1) (tLc (iList K (tVar 3)) (gName 4) tYes (tOp (gIx K) (tVar 4) (tC (.int 0))) [4]))) (tRet (tVar 2)) tNext)))
  (tRet (tC .non)))

abbrev s_l_may : Stmt := (top 33)
abbrev nm_l_may : List Str := ["_law_own", "_law_box", "_law_weight_here", "_law_stack", "_law_name", "_law_place", "_law_high", "_law_most", "_law_pile", "_law_one"]
theorem sc_l_may : FnScope nm_l_may ["_law_own", "_law_box", "_law_weight_here", "_law_stack"] (defScope s_l_may) := ⟨rfl, rfl, rfl, by decide +kernel, rfl, by decide +kernel, by decide +kernel⟩
def t_l_may (K : PySem.W.Frag) (A : XA) : TS := (tSeq (tAsg (tCall (sp_l_of K A) [] E0 (tCons (tVar 0) (tCons (tVar 3) tNil))) (gTup K 4 (gCons (gName 4) (gCons (gName 5) (gCons (gName 6) (gCons (gName 7) gNil))))))
  (tSeq (tAsg (tDGet (tDGet (tVar 0) (tC (.str ("piles" : Str)))) (tVar 3)) (gName 8))
  (tSeq (tIfS (tOr (tTest (tOp (gIn2) (tCall (sp_l_where K A) [] E0 (tCons (tVar 0) (tCons (tVar 1) tNil))) (tC .non))) (tTest (tOp (gGe) (tCB (rLen K) (tCons (tVar 8) tNil)) (tVar 6)))) (tRet (tC (.bl false))) tNext)
  (tRet (tOp (gLe) (tOp (gAdd K) (tCB (rSum K) (tCons (tLc (iList K (tVar 8)) (gName 9) tYes (tOp (gIx K) (tVar 9) (tC (.int 1))) [9]) tNil)) (tVar 2)) (tVar 7))))))

abbrev s_l_deed : Stmt := (top 34)
abbrev nm_l_deed : List Str := ["_law_stacks_here", "_law_own", "_law_boxes", "_law_cell", "_law_stack", "_law_box", "_law_weight_here"]
theorem sc_l_deed : FnScope nm_l_deed ["_law_stacks_here", "_law_own", "_law_boxes", "_law_cell"] (defScope s_l_deed) := ⟨rfl, rfl, rfl, by decide +kernel, rfl, by decide +kernel, by decide +kernel⟩
def t_l_deed (K : PySem.W.Frag) (A : XA) : TS := (tSeq (tAsg (tOp (gIx K) (tOp (gIx K) (tDGet (tVar 1) (tC (.str ("told" : Str)))) (tOp (gMod) (tOp (gFdv) (tVar 3) (tC (.int 4))) (tCB (rLen K) (tCons (tDGet (tVar 1) (tC (.str ("told" : Str)))) tNil)))) (tC (.int 0))) (gName 4))
  (tSeq (tAsg (tOp (gIx K) (tVar 2) (tOp (gMod) (tOp (gFdv) (tVar 3) (tC (.int 100))) (tC (.int 12)))) (gName 5))
  (tSeq (tAsg (tCall (sp_l_weight K A) [] E0 (tCons (tOp (gFdv) (tVar 3) (tC (.int 2000))) tNil)) (gName 6))
  (tSeq (tIfS (tAnd (tTest (tOp (gGt) (tOp (gMod) (tVar 3) (tC (.int 4))) (tC (.int 0)))) (tB (tCall (sp_l_may K A) [] E0 (tCons (tVar 1) (tCons (tVar 5) (tCons (tVar 6) (tCons (tVar 4) tNil))))))) (tSeq (tDrop (tBM K "list" rAppend (tDGet (tDGet (tVar 1) (tC (.str ("piles" : Str)))) (tVar 4)) (tCons (tTup (tCons (tVar 5) (tCons (tVar 6) tNil))) tNil)))
  (tRet (tOp (gIs) (tMeth A.c_Stacks "put" (sp_Stacks_put K A) [] E0 (tVar 0) (tCons (tVar 5) (tCons (tVar 6) (tCons (tVar 4) tNil)))) (tC .non)))) tNext)
  (tSeq (tIfS (tTest (tOp (gEq K) (tDGet (tDGet (tVar 1) (tC (.str ("piles" : Str)))) (tVar 4)) (tLst tNil))) (tRet (tC (.bl true))) tNext)
  (tRet (tOp (gEq K) (tCB (gReprA K) (tCons (tMeth A.c_Stacks "take" (sp_Stacks_take K A) [] E0 (tVar 0) (tCons (tVar 4) tNil)) tNil)) (tCB (gReprA K) (tCons (tBM0 K "list" rPop (tDGet (tDGet (tVar 1) (tC (.str ("piles" : Str)))) (tVar 4))) tNil)))))))))

abbrev s_l_right : Stmt := (top 35)
abbrev nm_l_right : List Str := ["_law_stacks_here", "_law_own", "_law_boxes", "_law_cell", "_law_stack", "_law_told", "_law_again", "_law_names_here", "_law_pile", "_law_one", "_law_box", "_law_where_here"]
theorem sc_l_right : FnScope nm_l_right ["_law_stacks_here", "_law_own", "_law_boxes", "_law_cell"] (defScope s_l_right) := ⟨rfl, rfl, rfl, by decide +kernel, rfl, by decide +kernel, by decide +kernel⟩
def t_l_right (K : PySem.W.Frag) (A : XA) : TS := (tSeq (tAsg (tOp (gIx K) (tDGet (tVar 1) (tC (.str ("told" : Str)))) (tOp (gMod) (tOp (gFdv) (tVar 3) (tC (.int 7))) (tCB (rLen K) (tCons (tDGet (tVar 1) (tC (.str ("told" : Str)))) tNil)))) (gName 4))
  (tSeq (tAsg (tLst (tCons (tMeth A.c_Stacks "place_of" (sp_Stacks_place_of K A) [] E0 (tVar 0) (tCons (tOp (gIx K) (tVar 4) (tC (.int 0))) tNil)) (tCons (tMeth A.c_Stacks "high" (sp_Stacks_high K A) [] E0 (tVar 0) (tCons (tOp (gIx K) (tVar 4) (tC (.int 0))) tNil)) (tCons (tMeth A.c_Stacks "weight" (sp_Stacks_weight K A) [] E0 (tVar 0) (tCons (tOp (gIx K) (tVar 4) (tC (.int 0))) tNil)) tNil)))) (gName 5))
  (tSeq (tIfS (tTest (tOp (gNe K) (tCB (gReprA K) (tCons (tVar 5) tNil)) (tCB (gReprA K) (tCons (tCB (rListOf K) (tCons (tSl (rSlT K) (tVar 4) (tPart (tC (.int 1))) tNoPart) tNil)) tNil)))) (tRet (tC (.bl false))) tNext)
  (tSeq (tFor (iRng1 (tCons (tC (.int 2)) tNil)) (gName 6) (tSeq (tPar 7 8 (tCons (tMeth A.c_Stacks "names" (sp_Stacks_names K A) [] E0 (tVar 0) tNil) (tCons (tMeth A.c_Stacks "boxes" (sp_Stacks_boxes K A) [] E0 (tVar 0) (tCons (tOp (gIx K) (tVar 4) (tC (.int 0))) tNil)) tNil)))
  (tSeq (tIfS (tOr (tTest (tOp (gNe K) (tCB (gReprA K) (tCons (tVar 7) tNil)) (tCB (gReprA K) (tCons (tCB (rSortedS K) (tCons (tLc (iList K (tDGet (tVar 1) (tC (.str ("told" : Str))))) (gName 9) tYes (tOp (gIx K) (tVar 9) (tC (.int 0))) [9]) tNil)) tNil)))) (tTest (tOp (gNe K) (tCB (gReprA K) (tCons (tVar 8) tNil)) (tCB (gReprA K) (tCons (tDGet (tDGet (tVar 1) (tC (.str ("piles" : Str)))) (tOp (gIx K) (tVar 4) (tC (.int 0)))) tNil))))) (tRet (tC (.bl false))) tNext)
  (tSeq (tDrop (tBM K "list" rAppend (tVar 7) (tCons (tC (.str ("more" : Str))) tNil)))
  (tDrop (tBM K "list" rAppend (tVar 8) (tCons (tC (.str ("more" : Str))) tNil)))))))
  (tSeq (tAsg (tOp (gIx K) (tVar 2) (tOp (gMod) (tOp (gFdv) (tVar 3) (tC (.int 300))) (tC (.int 12)))) (gName 10))
  (tSeq (tAsg (tCall (sp_l_where K A) [] E0 (tCons (tVar 1) (tCons (tVar 10) tNil))) (gName 11))
  (tSeq (tIfS (tTest (tOp (gIs) (tVar 11) (tC .non))) (tRet (tC (.bl true))) tNext)
  (tRet (tOp (gEq K) (tCB (gReprA K) (tCons (tLst (tCons (tMeth A.c_Stacks "where" (sp_Stacks_where K A) [] E0 (tVar 0) (tCons (tVar 10) tNil)) (tCons (tMeth A.c_Stacks "is_top" (sp_Stacks_is_top K A) [] E0 (tVar 0) (tCons (tVar 10) tNil)) tNil))) tNil)) (tCB (gReprA K) (tCons (tLst (tCons (tVar 11) (tCons (tOp (gEq K) (tOp (gIx K) (tOp (gIx K) (tDGet (tDGet (tVar 1) (tC (.str ("piles" : Str)))) (tVar 11)) (tUn (rU fun i => .int (-i)) (tC (.int 1)))) (tC (.int 0))) (tVar 10)) tNil))) tNil)))))))))))

abbrev s_law : Stmt := (top 36)
abbrev nm_law : List Str := ["_law_script", "_law_told", "_law_boxes", "_law_handed", "_law_stacks_here", "_law_own", "_law_past", "_law_k", "_law_cell", "_law_other", "_law_kept_here", "_law_j", "_law_one"]
theorem sc_law : FnScope nm_law ["_law_script"] (defScope s_law) := ⟨rfl, rfl, rfl, by decide +kernel, rfl, by decide +kernel, by decide +kernel⟩
def t_law (K : PySem.W.Frag) (A : XA) : TS := (tSeq (tAsg (tCall (sp_l_stacks K A) [] E0 (tCons (tVar 0) (tCons (tC (.int 100)) tNil))) (gName 1))
  (tSeq (tAsg (tCall (sp_l_names K A) [] E0 (tCons (tCall (sp_l_number K A) [] E0 (tCons (tVar 0) (tCons (tC (.int 90)) tNil))) (tCons (tC (.int 12)) tNil))) (gName 2))
  (tSeq (tAsg (tCB (rListOf K) (tCons (tVar 1) tNil)) (gName 3))
  (tSeq (tAsg (tMake A.c_Stacks (sp_Stacks_init K A) [] E0 (tCons (tVar 3) tNil)) (gName 4))
  (tSeq (tDrop (tBM0 K "list" rClear (tVar 3)))
  (tSeq (tAsg (tCall (sp_l_new K A) [] E0 (tCons (tVar 1) tNil)) (gName 5))
  (tSeq (tAsg (tLst tNil) (gName 6))
  (tSeq (tFor (iRng1 (tCons (tOp (gAdd K) (tC (.int 1)) (tCB (gMin K) (tCons (tC (.int 63)) (tCons (tCB (rLen K) (tCons (tVar 0) tNil)) tNil)))) tNil)) (gName 7) (tSeq (tAsg (tCall (sp_l_number K A) [] E0 (tCons (tVar 0) (tCons (tVar 7) tNil))) (gName 8))
  (tSeq (tIfS (tOr (tNot (tB (tCall (sp_l_deed K A) [] E0 (tCons (tVar 4) (tCons (tVar 5) (tCons (tVar 2) (tCons (tVar 8) tNil))))))) (tNot (tB (tCall (sp_l_right K A) [] E0 (tCons (tVar 4) (tCons (tVar 5) (tCons (tVar 2) (tCons (tVar 8) tNil)))))))) (tRet (tC (.bl false))) tNext)
  (tIfS (tTest (tOp (gEq K) (tOp (gMod) (tOp (gFdv) (tVar 8) (tC (.int 5))) (tC (.int 9))) (tC (.int 1)))) (tSeq (tAsg (tMeth A.c_Stacks "copied" (sp_Stacks_copied K A) [] E0 (tVar 4) tNil) (gName 9))
  (tSeq (tDrop (tBM K "list" rAppend (tVar 6) (tCons (tTup (tCons (tVar 4) (tCons (tCall (sp_l_kept K A) [] E0 (tCons (tVar 5) tNil)) tNil))) tNil)))
  (tAsg (tVar 9) (gName 4)))) tNext))))
  (tSeq (tFor (iEnum K (tCons (tVar 6) tNil)) (gTup K 2 (gCons (gName 7) (gCons (gTup K 2 (gCons (gName 9) (gCons (gName 10) gNil))) gNil))) (tIfS (tNot (tB (tCB (rAll K) (tCons (tLc (iRng1 (tCons (tCB (rLen K) (tCons (tVar 1) tNil)) tNil)) (gName 11) tYes (tCall (sp_l_right K A) [] E0 (tCons (tVar 9) (tCons (tVar 10) (tCons (tVar 2) (tCons (tOp (gAdd K) (tOp (gMul) (tC (.int 7)) (tVar 11)) (tOp (gMul) (tOp (gMul) (tC (.int 300)) (tC (.int 7))) (tVar 7))) tNil))))) [11]) tNil)))) (tRet (tC (.bl false))) tNext))
  (tRet (tOp (gEq K) (tLc (iList K (tDGet (tVar 5) (tC (.str ("told" : Str))))) (gName 12) (tTest (tOp (gNe K) (tCB (gReprA K) (tCons (tMeth A.c_Stacks "boxes" (sp_Stacks_boxes K A) [] E0 (tVar 4) (tCons (tOp (gIx K) (tVar 12) (tC (.int 0))) tNil)) tNil)) (tCB (gReprA K) (tCons (tDGet (tDGet (tVar 5) (tC (.str ("piles" : Str)))) (tOp (gIx K) (tVar 12) (tC (.int 0)))) tNil)))) (tVar 12) [12]) (tLst tNil))))))))))))

local macro_rules | `(tactic| walk_at "cy.side") => `(tactic| first | assumption | omega | decide | (simp only [List.length_map, List.length_cons, List.length_nil, List.length_append]; omega) | rfl)
local macro_rules | `(tactic| walk_at "cy.op") => `(tactic| first
  | exact d_addI | exact d_subI | exact d_ltI | exact d_leI | exact d_gtI | exact d_geI | exact d_eqI | exact d_neI | exact d_eqS | exact d_neS | exact d_leS | exact d_inC | exact d_niC
  | exact d_isN | exact d_niN | exact d_isB | exact d_pow9 | exact d_pow12 | exact d_pow6
  | exact d_fdv (by first | decide | omega) (by first | decide | omega) | exact d_mod (by first | decide | omega) | exact d_pow ⟨by decide, by decide, by decide⟩
  | exact d_mulI (Or.inl (by first | decide | omega)) | exact d_mulI (Or.inr (by first | decide | omega))
  | exact d_addS (by walk_at "cy.side") | exact d_ixL (by walk_at "cy.side") | exact d_ixT (by walk_at "cy.side") | exact d_ixR (by walk_at "cy.side") | exact d_ixS (by walk_at "cy.side") (by walk_at "cy.side")
  | exact d_ixLn (by walk_at "cy.side") (by walk_at "cy.side") | exact d_ixTn (by walk_at "cy.side") (by walk_at "cy.side") | exact d_ixRn (by walk_at "cy.side") (by walk_at "cy.side")
  | exact d_eqD (by walk_at "cy.side") (by walk_at "cy.side") | exact d_neD (by walk_at "cy.side") (by walk_at "cy.side"))
local macro_rules | `(tactic| walk_at "cy.n") => `(tactic| first
  | exact n_max2 | exact n_min2 | exact n_abs | exact n_lenL | exact n_lenT | exact n_lenR | exact n_lenS (by walk_at "cy.side") | exact n_reprB | exact n_reprN | exact n_reprI (by walk_at "cy.side") | exact n_all | exact n_any
  | exact n_strI (by walk_at "cy.side") | exact n_intS (by walk_at "cy.side") (by walk_at "cy.side"))
local macro_rules | `(tactic| walk_at "cy.s") => `(tactic| first
  | exact s_nil
  | (apply s_cons; walk_at "cy.e"; walk_at "cy.s"))
local macro_rules | `(tactic| walk_at "cy.p") => `(tactic| first
  | exact p_none
  | (apply p_some; walk_at "cy.e"))
local macro_rules | `(tactic| walk_at "cy.e") => `(tactic| first
  | assumption
  | exact e_var rfl
  | exact e_int | exact e_none | exact e_bl | exact e_str | exact e_dnew | exact e_disp1
  | (apply e_op; walk_at "cy.e"; walk_at "cy.e"; walk_at "cy.op")
  | (apply e_isi; walk_at "cy.e"; rfl; decide +kernel)
  | (apply e_cb; walk_at "cy.s"; walk_at "cy.n")
  | (apply e_chain; walk_at "cy.e"; walk_at "cy.e"; walk_at "cy.op"; (intro _; walk_at "cy.e"); (intro _; walk_at "cy.op"))
  | (apply e_tup; walk_at "cy.s"; walk_at "cy.side")
  | (apply e_share; apply o_lst; walk_at "cy.s"; walk_at "cy.side")
  | (apply e_slS; walk_at "cy.e"; walk_at "cy.p"; walk_at "cy.p"; walk_at "cy.side")
  | (apply e_share; apply o_sl; walk_at "cy.e"; walk_at "cy.p"; walk_at "cy.p")
  | (apply e_un; walk_at "cy.e"; exact op1_neg)
  | (apply e_notV; walk_at "cy.e")
  | (apply e_andV; walk_at "cy.e"; (intro _; walk_at "cy.e"))
  | (apply e_orV; walk_at "cy.e"; (intro _; walk_at "cy.e"))
  | (apply e_call; walk_at "cy.s"; walk_at "cy.side")
  | (apply e_share; apply o_call; walk_at "cy.s"; walk_at "cy.side"))
local macro_rules | `(tactic| walk_at "cy.t") => `(tactic| first
  | assumption
  | exact t_yes
  | (apply t_test; walk_at "cy.e")
  | (apply t_B; walk_at "cy.e")
  | (apply t_not; walk_at "cy.t")
  | (apply t_and; walk_at "cy.t"; (intro _; walk_at "cy.t"))
  | (apply t_or; walk_at "cy.t"; (intro _; walk_at "cy.t")))
local macro_rules | `(tactic| walk_at "cy.wk") => `(tactic| repeat (first | exact Wk.nil | apply Wk.keep | apply Wk.drop))

section
variable {A : XA}
theorem wipe1 {G : List Sl} {j : Nat} {d : Sl} : (wipeG G [j]).set j d = G.set j d := by
  show (G.set j .no).set j d = G.set j d
  rw [List.set_set]
theorem e_told {K : PySem.W.Frag} (Z : CF K A) {s : Stk} {ps : List D} {ly : D} {G : List Sl} {ta : TE} (h : EvD K ta G (.obj A.c_Stacks (stkFs s ps ly))) : EvD K (tFld K ta "_told") G (.dic (toldE s)) := e_fld h Z.cl_Stacks Z.n_Stacks__told rfl
theorem e_piles {K : PySem.W.Frag} (Z : CF K A) {s : Stk} {ps : List D} {ly : D} {G : List Sl} {ta : TE} (h : EvD K ta G (.obj A.c_Stacks (stkFs s ps ly))) : EvD K (tFld K ta "_piles") G (.dic (pilesE s ps)) := e_fld h Z.cl_Stacks Z.n_Stacks__piles rfl
theorem e_lying {K : PySem.W.Frag} (Z : CF K A) {s : Stk} {ps : List D} {ly : D} {G : List Sl} {ta : TE} (h : EvD K ta G (.obj A.c_Stacks (stkFs s ps ly))) : EvD K (tFld K ta "_lying") G ly := e_fld h Z.cl_Stacks Z.n_Stacks__lying rfl
theorem rd_is_among (K : PySem.W.Frag) (Z : CF K A) {ds : List D} {d : D} (h : R_is_among ds d) : StD K (t_is_among K A) (args nm_is_among.length ds) (.rt d) := by
  obtain ⟨x, a, b, rfl, hn, rfl⟩ := h
  unfold t_is_among
  have e1 : EvD K (tCB (rIsi K) (tCons (tVar 0) (tCons (tC (.ty "int")) tNil))) (args nm_is_among.length [x, .int a, .int b]) (.bl (isI x)) := e_isI (e_var rfl) hn
  have e2 : EvD K (tCB (rIsi K) (tCons (tVar 0) (tCons (tC (.ty "bool")) tNil))) (args nm_is_among.length [x, .int a, .int b]) (.bl (isB x)) := e_isB (e_var rfl) hn
  refine st_guard (t_or (t_not (t_B e1)) (fun _ => t_B e2)) (fun hx => st_ret ?_) (fun hx => st_ret ?_)
  · cases x <;> first | (cases hx; done) | exact e_bl
  · cases x <;> first | (cases hx; done) | skip
    rename_i i
    show EvD K _ _ (.bl (decide (a ≤ i) && decide (i ≤ b)))
    walk_at "cy.e"
theorem all_signs {K : PySem.W.Frag} {G : List Sl} {te : TE} {i j : Nat} {z : Str} (f : Nat → Bool) (hz : z.length ≤ 1000) (hi : G[i]? = some (.dat (.str z))) (hv : ∀ c, EvD K te ((wipeG G [j]).set j (.dat (.str ⟨#[c]⟩))) (.bl (f c))) : EvD K (tCB (rAll K) (tCons (tLc (iStr (tVar i)) (gName j) tYes te [j]) tNil)) G (.bl (z.cps.toList.all f)) := by
  have hl : (signs z).length = z.length := by
    unfold signs
    rw [List.length_map]
    rfl
  refine e_is (e_cb (s_cons (e_is (e_share (o_lcM (fun d => match d with | .str ⟨#[c]⟩ => .bl (f c) | _ => .non) (it_str (e_var hi)) (by omega) (fun d hd => ?_))) (b := .lst ((z.cps.toList.map f).map D.bl)) ?_) s_nil) n_all) ?_
  · obtain ⟨c, _, rfl⟩ := List.mem_map.mp hd
    exact hv c
  · unfold signs
    rw [List.map_map, List.map_map]
    rfl
  · rw [List.all_map]
    rfl
theorem asc_tab : ((List.range 128).all fun c => decide ((letter c = true ↔ (Unicode.isAlpha c = true ∧ Unicode.isUpper c = false ∧ Unicode.isTitle c = false)) ∧ (letter c = true → Unicode.isLower c = true))) = true := by decide +kernel
theorem asc_at {c : Nat} (h : c < 128) : (letter c = true ↔ (Unicode.isAlpha c = true ∧ Unicode.isUpper c = false ∧ Unicode.isTitle c = false)) ∧ (letter c = true → Unicode.isLower c = true) := of_decide_eq_true (List.all_eq_true.mp asc_tab c (List.mem_range.mpr h))
theorem letter_lt {c : Nat} (h : letter c = true) : c < 128 := by
  unfold letter at h
  rw [Bool.and_eq_true, decide_eq_true_iff, decide_eq_true_iff] at h
  omega
theorem low_is (z : Str) : (Txt.islower z && (Txt.isalpha z && Txt.isascii z)) = (decide (1 ≤ z.length) && z.cps.toList.all letter) := by
  have h1 : Txt.islower z = (z.cps.toList.any Unicode.isLower && !z.cps.toList.any fun c => Unicode.isUpper c || Unicode.isTitle c) := by
    unfold Txt.islower
    rw [Array.any_toList, Array.any_toList]
  have h2 : Txt.isalpha z = (decide (0 < z.length) && z.cps.toList.all Unicode.isAlpha) := by
    unfold Txt.isalpha
    rw [Array.all_toList]
  have h3 : Txt.isascii z = z.cps.toList.all fun c => decide (c < 128) := by
    unfold Txt.isascii
    rw [Array.all_toList]
  have hl : z.length = z.cps.toList.length := rfl
  rw [h1, h2, h3, hl]
  generalize z.cps.toList = l
  rw [Bool.eq_iff_iff]
  simp only [Bool.and_eq_true, Bool.not_eq_true', decide_eq_true_iff, List.all_eq_true, List.any_eq_true, List.any_eq_false, Bool.or_eq_true, not_or, Bool.not_eq_true]
  constructor
  · rintro ⟨⟨_, hu⟩, ⟨h0, ha⟩, hs⟩
    exact ⟨h0, fun c hc => (asc_at (hs c hc)).1.mpr ⟨ha c hc, hu c hc⟩⟩
  · rintro ⟨h0, hc⟩
    have hs : ∀ c ∈ l, c < 128 := fun c h => letter_lt (hc c h)
    refine ⟨⟨?_, fun c h => ((asc_at (hs c h)).1.mp (hc c h)).2⟩, ⟨h0, fun c h => ((asc_at (hs c h)).1.mp (hc c h)).1⟩, hs⟩
    cases l with
    | nil => exact absurd h0 (by decide)
    | cons c l => exact ⟨c, List.mem_cons_self, (asc_at (hs c List.mem_cons_self)).2 (hc c List.mem_cons_self)⟩
theorem e_tx {K : PySem.W.Frag} {ta : TE} {G : List Sl} {f : Str → Bool} {a : Str} (h : EvD K ta G (.str a)) : EvD K (tM0 (rTx f) ta) G (.bl (f a)) := .mk fun {H0 F0 F H σ} E Q q =>
  h E _ fun v F1 H1 E1 f1 g1 n1 r1 => by
    cases r1
    exact ⟨⟨a, rfl⟩, a, rfl, rfl, trivial, q _ F1 H1 E1 f1 g1 n1 (.bl _)⟩
theorem rd_is_name (K : PySem.W.Frag) (Z : CF K A) {ds : List D} {d : D} (h : R_is_name ds d) : StD K (t_is_name K A) (args nm_is_name.length ds) (.rt d) := by
  obtain ⟨x, rfl, hx, rfl⟩ := h
  unfold t_is_name
  have e1 : EvD K (tCB (rIsi K) (tCons (tVar 0) (tCons (tC (.ty "str")) tNil))) (args nm_is_name.length [x]) (.bl (isS x)) := e_isS (e_var rfl) (sh_no hx.sh)
  cases x with
  | str s =>
    have hl := hx.sz s rfl
    have e2 : EvTt K (tTest (tOp gGt (tCB (Cy.rLen K) (tCons (tVar 0) tNil)) (tC (.int 8)))) (args nm_is_name.length [.str s]) (decide ((8 : Int) < (s.length : Int))) := t_test (e_op (e_cb (s_cons (e_var rfl) s_nil) (n_lenS (by omega))) e_int d_gtI)
    refine st_guard (t_or (t_not (t_B e1)) (fun _ => e2)) (fun hx => st_ret (e_is e_bl ?_)) (fun hx => st_ret (e_is (e_andV (e_tx (e_var rfl)) (fun _ => e_andV (e_tx (e_var rfl)) (fun _ => e_tx (e_var rfl)))) ?_))
    · have hx' : ¬ (1 ≤ s.length ∧ s.length ≤ 8) := by
        simp [isS] at hx
        omega
      show D.bl false = D.bl (decide (1 ≤ s.length ∧ s.length ≤ 8) && s.cps.toList.all letter)
      rw [decide_eq_false hx']
      rfl
    · have hx' : s.length ≤ 8 := by
        simp [isS] at hx
        omega
      show D.bl (Txt.islower s && (Txt.isalpha s && Txt.isascii s)) = D.bl (decide (1 ≤ s.length ∧ s.length ≤ 8) && s.cps.toList.all letter)
      rw [low_is]
      congr 2
      exact decide_eq_decide.mpr ⟨fun z => ⟨z, hx'⟩, fun z => z.1⟩
  | _ => exact st_guard (x := true) (t_or (y := true) (t_not (t_B e1)) (fun q => nomatch q)) (fun _ => st_ret e_bl) (fun q => nomatch q)
theorem rd_is_stack (K : PySem.W.Frag) (Z : CF K A) {ds : List D} {d : D} (h : R_is_stack ds d) : StD K (t_is_stack K A) (args nm_is_stack.length ds) (.rt d) := by
  obtain ⟨x, rfl, ⟨hs, hz⟩, rfl⟩ := h
  have hn := sh_no hs
  unfold t_is_stack
  by_cases ht : isT x = true
  · cases x with
    | tup xs =>
      have tT : EvTt K (tOr (tNot (tB (tCB (rIsi K) (tCons (tVar 0) (tCons (tC (.ty "tuple")) tNil))))) (tTest (tOp (gNe K) (tCB (Cy.rLen K) (tCons (tVar 0) tNil)) (tC (.int 4))))) (args nm_is_stack.length [.tup xs]) (!decide ((xs.length : Int) = 4)) :=
        t_is (t_or (t_not (t_B (e_isT (e_var rfl) rfl))) (fun _ => t_test (e_op (e_cb (s_cons (e_var rfl) s_nil) n_lenT) e_int d_neI))) (by rfl)
      have hm := sh_mem (sh_unT hs)
      match xs, tT, hm, hz with
      | [a, b, c, e], tT, hm, hz =>
        have ta : Thing a := ⟨hm a List.mem_cons_self, fun s q => hz _ rfl a List.mem_cons_self s q⟩
        have hb := sh_no (hm b (by simp))
        have hc := sh_no (hm c (by simp))
        have he := sh_no (hm e (by simp))
        exact st_guard (x := false) tT (fun q => nomatch q) (fun _ => st_seq (st_asg (e_var rfl) (g_tup (gs_cons g_name (gs_cons g_name (gs_cons g_name (gs_cons g_name gs_nil)))) rfl)) (st_ret (e_andV (e_call (s_cons (e_var rfl) s_nil) ⟨a, rfl, ta, rfl⟩) (fun _ => e_andV (e_call (s_cons (e_var rfl) (s_cons e_int (s_cons e_int s_nil))) ⟨b, 0, 1000000000000, rfl, hb, rfl⟩) (fun _ => e_andV (e_call (s_cons (e_var rfl) (s_cons e_int (s_cons e_int s_nil))) ⟨c, 1, 20, rfl, hc, rfl⟩) (fun _ => e_call (s_cons (e_var rfl) (s_cons e_int (s_cons e_int s_nil))) ⟨e, 1, 1000000000000, rfl, he, rfl⟩))))))
      | [], tT, _, _ => exact st_guard (x := true) tT (fun _ => st_ret e_bl) (fun q => nomatch q)
      | [a], tT, _, _ => exact st_guard (x := true) tT (fun _ => st_ret e_bl) (fun q => nomatch q)
      | [a, b], tT, _, _ => exact st_guard (x := true) tT (fun _ => st_ret e_bl) (fun q => nomatch q)
      | [a, b, c], tT, _, _ => exact st_guard (x := true) tT (fun _ => st_ret e_bl) (fun q => nomatch q)
      | a :: b :: c :: e :: f :: xs, tT, _, _ => exact st_guard (x := true) (t_is tT (by rw [decide_eq_false (by simp only [List.length_cons]; omega)]; rfl)) (fun _ => st_ret e_bl) (fun q => nomatch q)
    | _ => cases ht
  · have hf : isT x = false := Bool.eq_false_iff.mpr ht
    have hc : isSt x = false := by
      cases x <;> first | rfl | (exact absurd rfl ht)
    rw [hc]
    exact st_guard (x := true) (t_is (t_or (y := false) (t_not (t_B (e_isT (e_var rfl) hn))) (fun q => by rw [hf] at q; cases q)) (by rw [hf]; rfl)) (fun _ => st_ret e_bl) (fun q => nomatch q)
theorem is_row {d : D} (h : isSt d = true) : ∃ n p h w, d = .tup [.str n, .int p, .int h, .int w] := by
  match d, h with
  | .tup [a, b, c, e], h =>
    have h1 : (isName a && (amongI b 0 1000000000000 && (amongI c 1 20 && amongI e 1 1000000000000))) = true := h
    rw [Bool.and_eq_true, Bool.and_eq_true, Bool.and_eq_true] at h1
    obtain ⟨h1, h2, h3, h4⟩ := h1
    obtain ⟨p, rfl, _⟩ := among_int h2
    obtain ⟨q, rfl, _⟩ := among_int h3
    obtain ⟨w, rfl, _⟩ := among_int h4
    cases a with
    | str n => exact ⟨n, p, q, w, rfl⟩
    | _ => exact absurd h1 Bool.false_ne_true
theorem rd_are_stacks (K : PySem.W.Frag) (Z : CF K A) {ds : List D} {d : D} (h : R_are_stacks ds d) : StD K (t_are_stacks K A) (args nm_are_stacks.length ds) (.rt d) := by
  obtain ⟨x, rfl, hx, rfl⟩ := h
  have hs := hx.sh
  unfold t_are_stacks
  by_cases hL : isL x = true
  · cases x with
    | scr ns => unfold shOk at hs; cases hs
    | lst xs =>
      have hm := sh_mem (sh_un hs)
      have t2 : EvTt K (tOr (tNot (tB (tCB (rIsi K) (tCons (tVar 0) (tCons (tC (.ty "list")) tNil))))) (tNot (tTest (tChain (gLe) (gLe) (tC (.int 1)) (tCB (Cy.rLen K) (tCons (tVar 0) tNil)) (tC (.int 20)))))) (args nm_are_stacks.length [.lst xs]) (!(decide (1 ≤ xs.length) && decide (xs.length ≤ 20))) := by
        refine t_is (t_or (t_not (t_B (e_isL (e_var rfl) rfl))) (fun _ => t_not (t_test (e_chain e_int (e_cb (s_cons (e_var rfl) s_nil) n_lenL) d_leI (fun _ => e_int) (fun _ => d_leI))))) ?_
        show (!true || !(decide ((1 : Int) ≤ (xs.length : Int)) && decide ((xs.length : Int) ≤ 20))) = _
        have a : decide ((1 : Int) ≤ (xs.length : Int)) = decide (1 ≤ xs.length) := decide_eq_decide.mpr (by omega)
        have b : decide ((xs.length : Int) ≤ 20) = decide (xs.length ≤ 20) := decide_eq_decide.mpr (by omega)
        rw [a, b]
        rfl
      show StD K _ _ (.rt (.bl (areL xs)))
      unfold areL
      cases h2 : (decide (1 ≤ xs.length) && decide (xs.length ≤ 20)) with
      | false =>
        rw [h2] at t2
        exact st_guard (x := true) t2 (fun _ => st_ret e_bl) (fun q => nomatch q)
      | true =>
        rw [h2] at t2
        rw [Bool.and_eq_true, decide_eq_true_iff, decide_eq_true_iff] at h2
        refine st_pass t2 ?_
        have t3 : EvTt K (tNot (tB (tCB (rAll K) (tCons (tLc (iList K (tVar 0)) (gName 1) tYes (tCall (sp_is_stack K A) [] E0 (tCons (tVar 1) tNil)) [1]) tNil)))) (args nm_are_stacks.length [.lst xs]) (!xs.all isSt) := by
          refine t_is (t_not (t_B (e_cb (s_cons (e_is (e_share (o_lcM (fun d => D.bl (isSt d)) (it_list (e_var rfl)) (by omega) (fun d hd => ?_))) (b := .lst ((xs.map isSt).map D.bl)) ?_) s_nil) n_all))) ?_
          · rw [wipe1]
            exact e_call (s_cons (e_var rfl) s_nil) ⟨d, rfl, ⟨hm d hd, fun ys q y hy s e => hx.sz xs rfl d hd ys q y hy s e⟩, rfl⟩
          · rw [List.map_map]
            rfl
          · rw [List.all_map]
            rfl
        cases h3 : xs.all isSt with
        | false =>
          rw [h3] at t3
          exact st_guard (x := true) t3 (fun _ => st_ret e_bl) (fun q => nomatch q)
        | true =>
          rw [h3] at t3
          have hrow : ∀ d ∈ xs, ∃ n p h w, d = .tup [.str n, .int p, .int h, .int w] := fun d hd => is_row (List.all_eq_true.mp h3 d hd)
          refine st_pass t3 (st_ret (e_is (e_chain (e_lenSc keyN (fun d => (wipeG (args nm_are_stacks.length [.lst xs]) [1]).set 1 (.dat d)) keeps1 (it_list (e_var rfl)) (by omega) (fun d hd => g_name) (fun d hd => ?_)) (e_cb (s_cons (e_var rfl) s_nil) n_lenL) d_eqI (fun _ => e_lenSc keyP (fun d => (wipeG (args nm_are_stacks.length [.lst xs]) [1]).set 1 (.dat d)) keeps1 (it_list (e_var rfl)) (by omega) (fun d hd => g_name) (fun d hd => ?_)) (fun _ => d_eqI)) (by rfl)))
          · obtain ⟨n, p, h, w, rfl⟩ := hrow d hd
            exact e_op (e_var rfl) e_int (d_ixT (by rfl))
          · obtain ⟨n, p, h, w, rfl⟩ := hrow d hd
            exact e_op (e_var rfl) e_int (d_ixT (by rfl))
    | _ => cases hL
  · have hf : isL x = false := Bool.eq_false_iff.mpr hL
    have hd : areSt x = false := by
      cases x <;> first | rfl | (exact absurd rfl hL)
    rw [hd]
    exact st_guard (x := true) (t_is (t_or (y := false) (t_not (t_B (e_isL (e_var rfl) (sh_no hs)))) (fun q => by rw [hf] at q; cases q)) (by rw [hf]; rfl)) (fun _ => st_ret e_bl) (fun q => nomatch q)

theorem rd_Stacks__ask_stack (K : PySem.W.Frag) (Z : CF K A) {ds : List D} {r : Res} (E : XK) (h : R_Stacks__ask_stack A ds r) : (r = .ok .non ∧ ∃ G, StD K (t_Stacks__ask_stack K A E) (args nm_Stacks__ask_stack.length ds) (.nx G)) ∨ ∃ C, r = .exc C ∧ StD K (t_Stacks__ask_stack K A E) (args nm_Stacks__ask_stack.length ds) (.ex C E) := by
  obtain ⟨s, x, rfl, hx, rfl⟩ := h
  unfold t_Stacks__ask_stack
  have tt : EvTt K (tOr (tNot (tB (tCall (sp_is_name K A) [] E0 (tCons (tVar 1) tNil)))) (tB (tDNotIn (tVar 1) (tFld K (tVar 0) "_told")))) (args nm_Stacks__ask_stack.length [stkD A.c_Stacks s, x]) (!known s x) := by
    have e1 : EvD K (tCall (sp_is_name K A) [] E0 (tCons (tVar 1) tNil)) (args nm_Stacks__ask_stack.length [stkD A.c_Stacks s, x]) (.bl (isName x)) := e_call (s_cons (e_var rfl) s_nil) ⟨x, rfl, hx, rfl⟩
    cases hn : isName x with
    | false =>
      rw [hn] at e1
      have hk : known s x = false := by
        cases x with
        | str n =>
          show (nmS n && (tri s n).isSome) = false
          have : nmS n = false := hn
          rw [this]
          rfl
        | _ => rfl
      exact t_is (t_or (y := false) (t_not (t_B e1)) (fun q => nomatch q)) (by rw [hk]; rfl)
    | true =>
      rw [hn] at e1
      cases x with
      | str n =>
        have hk : known s (.str n) = (tri s n).isSome := by
          show (nmS n && (tri s n).isSome) = _
          have : nmS n = true := hn
          rw [this, Bool.true_and]
        refine t_is (t_or (t_not (t_B e1)) (fun _ => t_B (e_dnotin (k := .inr n) (e_var rfl) (e_told Z (e_var rfl))))) ?_
        rw [hk, told_at, Option.isSome_map]
        rfl
      | _ => cases hn
  by_cases hk : known s x = true
  · rw [if_pos hk]
    rw [hk] at tt
    exact .inl ⟨rfl, _, st_if tt (fun q => nomatch q) (fun _ => st_next)⟩
  · rw [if_neg hk]
    rw [Bool.eq_false_iff.mpr hk] at tt
    exact .inr ⟨_, rfl, st_if tt (fun _ => st_raise0) (fun q => nomatch q)⟩
theorem known_no {s : Stk} {n : Str} {t : Int × Int × Int} (hn : nmS n = true) (ht : tri s n = some t) : known s (.str n) = true := by
  show (nmS n && (tri s n).isSome) = true
  rw [hn, ht]
  rfl
/-- a question: it is asked whether the stack is there, then it answers -/
theorem ask_rd {K : PySem.W.Frag} (Z : CF K A) {ds : List D} {r : Res} {f : Stk → Str → Int × Int × Int → D} {te : TE} {n : Nat} {X : XK} (hn : 2 ≤ n) (h : askS A f ds r) (ht : ∀ s m t, tri s m = some t → s.piles.length = s.told.length → EvD K te (args n [stkD A.c_Stacks s, .str m]) (f s m t)) :
    StD K (tSeq (tDrop (tMeth A.c_Stacks "_ask_stack" (sp_Stacks__ask_stack K A) [] X (tVar 0) (tCons (tVar 1) tNil))) (tRet te)) (args n ds) (r.out X) := by
  obtain ⟨s, x, rfl, hx, hp, hr⟩ := h
  have g0 : ∀ y : D, (args n [stkD A.c_Stacks s, y])[0]? = some (.dat (stkD A.c_Stacks s)) := fun y => rfl
  have g1 : ∀ y : D, (args n [stkD A.c_Stacks s, y])[1]? = some (.dat y) := fun y => rfl
  rcases hr with ⟨hk, rfl⟩ | ⟨m, t, rfl, hm, h2, rfl⟩
  · exact st_stop (st_dropRs (te := fun E => tMethE A.c_Stacks "_ask_stack" (sp_Stacks__ask_stack K A) E (tVar 0) (tCons (tVar 1) tNil)) (rs_meth (C := A.c_NoStack) (e_var (g0 x)) rfl (s_cons (e_var (g1 x)) s_nil) ⟨s, x, rfl, hx, by rw [if_neg (by rw [hk]; decide)]⟩)) (fun _ q => nomatch q)
  · exact st_seq (st_drop (e_methX (d := .non) (e_var (g0 _)) rfl (s_cons (e_var (g1 _)) s_nil) ⟨s, .str m, rfl, hx, by rw [if_pos (known_no hm h2)]⟩)) (st_ret (ht s m t h2 hp))
theorem e_toldAt {K : PySem.W.Frag} (Z : CF K A) {s : Stk} {m : Str} {t : Int × Int × Int} {n : Nat} (h : tri s m = some t) : EvD K (tDGet (tFld K (tVar 0) "_told") (tVar 1)) (args n [stkD A.c_Stacks s, .str m]) (triD m t) := e_dget (k := .inr m) (e_told Z (e_var rfl)) (e_var rfl) (by rw [told_at, h]; rfl)
theorem rd_Stacks_place_of (K : PySem.W.Frag) (Z : CF K A) {ds : List D} {r : Res} (E : XK) (h : R_Stacks_place_of A ds r) : StD K (t_Stacks_place_of K A E) (args nm_Stacks_place_of.length ds) (r.out E) := ask_rd Z (by decide) h fun s m t ht _ => e_op (e_toldAt Z ht) e_int (d_ixT (by rfl))
theorem rd_Stacks_high (K : PySem.W.Frag) (Z : CF K A) {ds : List D} {r : Res} (E : XK) (h : R_Stacks_high A ds r) : StD K (t_Stacks_high K A E) (args nm_Stacks_high.length ds) (r.out E) := ask_rd Z (by decide) h fun s m t ht _ => e_op (e_toldAt Z ht) e_int (d_ixT (by rfl))
theorem rd_Stacks_weight (K : PySem.W.Frag) (Z : CF K A) {ds : List D} {r : Res} (E : XK) (h : R_Stacks_weight A ds r) : StD K (t_Stacks_weight K A E) (args nm_Stacks_weight.length ds) (r.out E) := ask_rd Z (by decide) h fun s m t ht _ => e_op (e_toldAt Z ht) e_int (d_ixT (by rfl))
theorem rd_Stacks_boxes (K : PySem.W.Frag) (Z : CF K A) {ds : List D} {d : List D} (h : R_Stacks_boxes A ds d) : StD K (t_Stacks_boxes K A) (args nm_Stacks_boxes.length ds) (.ro d) := by
  obtain ⟨s, m, t, rfl, hm, ht, hp, rfl⟩ := h
  unfold t_Stacks_boxes
  exact st_seq (st_drop (e_methX (d := .non) (e_var rfl) rfl (s_cons (e_var rfl) s_nil) ⟨s, .str m, rfl, thing_nm hm, by rw [if_pos (known_no hm ht)]⟩)) (st_retO (o_cb (s_cons (e_dget (k := .inr m) (e_piles Z (e_var rfl)) (e_var rfl) (piles_at ht hp)) s_nil) n_listL))
theorem rd_Stacks_names (K : PySem.W.Frag) (Z : CF K A) {ds : List D} {d : List D} (h : R_Stacks_names A ds d) : StD K (t_Stacks_names K A) (args nm_Stacks_names.length ds) (.ro d) := by
  obtain ⟨s, rfl, hl, rfl⟩ := h
  unfold t_Stacks_names
  refine st_retO (o_cb (s_cons (e_told Z (e_var rfl)) s_nil) (n_sortedD ?_ ?_))
  · unfold toldE
    rw [List.map_map, List.map_map]
    rfl
  · rw [List.length_map]
    omega
theorem rd_Stacks__lies (K : PySem.W.Frag) (Z : CF K A) {ds : List D} {d : D} (h : R_Stacks__lies A ds d) : StD K (t_Stacks__lies K A) (args nm_Stacks__lies.length ds) (.rt d) := by
  obtain ⟨s, x, rfl, hx, rfl⟩ := h
  unfold t_Stacks__lies
  have e1 : EvD K (tCall (sp_is_name K A) [] E0 (tCons (tVar 1) tNil)) (args nm_Stacks__lies.length [stkD A.c_Stacks s, x]) (.bl (isName x)) := e_call (s_cons (e_var rfl) s_nil) ⟨x, rfl, hx, rfl⟩
  cases hn : isName x with
  | false =>
    rw [hn] at e1
    have hk : lies s x = false := by
      cases x with
      | str n =>
        show (nmS n && (find s.lying n).isSome) = false
        have : nmS n = false := hn
        rw [this]
        rfl
      | _ => rfl
    exact st_ret (e_is (e_andV (y := false) e1 (fun q => nomatch q)) (by rw [hk]; rfl))
  | true =>
    rw [hn] at e1
    cases x with
    | str n =>
      have hk : lies s (.str n) = (find s.lying n).isSome := by
        show (nmS n && (find s.lying n).isSome) = _
        have : nmS n = true := hn
        rw [this, Bool.true_and]
      refine st_ret (e_is (e_andV e1 (fun _ => e_din (k := .inr n) (e_var rfl) (e_lying Z (e_var rfl)))) ?_)
      rw [hk, lying_at, Option.isSome_map]
      rfl
    | _ => cases hn
theorem lies_no {s : Stk} {b n : Str} (hb : nmS b = true) (h : find s.lying b = some n) : lies s (.str b) = true := by
  show (nmS b && (find s.lying b).isSome) = true
  rw [hb, h]
  rfl
theorem rd_Stacks_where (K : PySem.W.Frag) (Z : CF K A) {ds : List D} {r : Res} (E : XK) (h : R_Stacks_where A ds r) : StD K (t_Stacks_where K A E) (args nm_Stacks_where.length ds) (r.out E) := by
  obtain ⟨s, x, rfl, hx, ok, hr⟩ := h
  unfold t_Stacks_where
  have tt : EvTt K (tNot (tB (tMeth A.c_Stacks "_lies" (sp_Stacks__lies K A) [] E0 (tVar 0) (tCons (tVar 1) tNil)))) (args nm_Stacks_where.length [stkD A.c_Stacks s, x]) (!lies s x) := t_not (t_B (e_meth (e_var rfl) rfl (s_cons (e_var rfl) s_nil) ⟨s, x, rfl, hx, rfl⟩))
  rcases hr with ⟨hk, rfl⟩ | ⟨b, n, rfl, hb, hf, rfl⟩
  · rw [hk] at tt
    exact st_fire tt st_raise0 (fun _ q => nomatch q)
  · rw [lies_no hb hf] at tt
    exact st_pass tt (st_ret (e_dget (k := .inr b) (e_lying Z (e_var rfl)) (e_var rfl) (by rw [lying_at, hf]; rfl)))
theorem rd_Stacks_is_top (K : PySem.W.Frag) (Z : CF K A) {ds : List D} {r : Res} (E : XK) (h : R_Stacks_is_top A ds r) : StD K (t_Stacks_is_top K A E) (args nm_Stacks_is_top.length ds) (r.out E) := by
  obtain ⟨s, x, rfl, hx, ok, hr⟩ := h
  unfold t_Stacks_is_top
  rcases hr with ⟨hk, rfl⟩ | ⟨b, n, rfl, hb, hf, rfl⟩
  · exact st_stop (st_asgRs (te := fun E => tDGet (tFld K (tVar 0) "_piles") (tMethE A.c_Stacks "where" (sp_Stacks_where K A) E (tVar 0) (tCons (tVar 1) tNil))) (rs_dget (e_piles Z (e_var rfl)) (rs_meth (C := A.c_NoBox) (e_var rfl) rfl (s_cons (e_var rfl) s_nil) ⟨s, x, rfl, hx, ok, .inl ⟨hk, rfl⟩⟩))) (fun _ q => nomatch q)
  · obtain ⟨h1, h2, h3⟩ := ok.at' b n hf
    obtain ⟨t, ht⟩ := Option.isSome_iff_exists.mp h2
    have hpos : 0 < (pileAt s n).length := List.length_pos_iff.mpr h3
    refine st_seq (st_asg (d := pileD (pileAt s n)) (e_dget (k := .inr n) (e_piles Z (e_var rfl)) (e_methX (d := .str n) (e_var rfl) rfl (s_cons (e_var rfl) s_nil) ⟨s, .str b, rfl, hx, ok, .inr ⟨b, n, rfl, hb, hf, rfl⟩⟩) (piles_at ht ok.pl)) g_name) (st_ret ?_)
    have hlast : atI ((pileAt s n).map boxD) (-1) = some (boxD ((pileAt s n).getD ((pileAt s n).length - 1) (b, 0))) := by
      have e1 : ixN ((pileAt s n).map boxD).length (-1) = some ((pileAt s n).length - 1) := by
        unfold ixN
        rw [List.length_map, if_neg (by decide), if_pos (by omega)]
        congr 1
        omega
      unfold atI
      rw [e1]
      show ((pileAt s n).map boxD)[(pileAt s n).length - 1]? = _
      rw [List.getElem?_map, List.getElem?_eq_getElem (by omega), List.getD_eq_getElem?_getD, List.getElem?_eq_getElem (by omega)]
      rfl
    exact e_op (e_op (e_op (e_var rfl) (e_un e_int op1_neg) (d_ixL hlast)) e_int (d_ixT (by rfl))) (e_var rfl) d_eqS
theorem pile_fst {l : List (Str × Int)} : (l.map boxD).map sndD = (l.map fun b => b.2).map D.int := by
  rw [List.map_map, List.map_map]
  rfl
theorem rd_Stacks__ask_space (K : PySem.W.Frag) (Z : CF K A) {ds : List D} {r : Res} (E : XK) (h : R_Stacks__ask_space A ds r) : (r = .ok .non ∧ ∃ G, StD K (t_Stacks__ask_space K A E) (args nm_Stacks__ask_space.length ds) (.nx G)) ∨ ∃ C, r = .exc C ∧ StD K (t_Stacks__ask_space K A E) (args nm_Stacks__ask_space.length ds) (.ex C E) := by
  obtain ⟨s, w, n, t, rfl, ht, hp, hl, rfl⟩ := h
  obtain ⟨t1, t2, t3⟩ := t
  have hlen : ((pileAt s n).map boxD).length = (pileAt s n).length := List.length_map ..
  let G2 : List Sl := [.dat (stkD A.c_Stacks s), .dat (.int w), .dat (.str n), .dat (.int t1), .dat (.int t2), .dat (.int t3), .dat (pileD (pileAt s n)), .no]
  have start : ∀ {tw : TS} {o : Out}, StD K tw G2 o → StD K (tSeq (tAsg (tDGet (tFld K (tVar 0) "_told") (tVar 2)) (gTup K 4 (gCons (gName 3) (gCons (gName 3) (gCons (gName 4) (gCons (gName 5) gNil)))))) (tSeq (tAsg (tDGet (tFld K (tVar 0) "_piles") (tVar 2)) (gName 6)) tw)) (args nm_Stacks__ask_space.length [stkD A.c_Stacks s, .int w, .str n]) o := fun h =>
    st_seq (st_asg (d := triD n (t1, t2, t3)) (e_dget (k := .inr n) (e_told Z (e_var rfl)) (e_var rfl) (by rw [told_at, ht]; rfl)) (g_tup (gs_cons g_name (gs_cons g_name (gs_cons g_name (gs_cons g_name gs_nil)))) rfl)) (st_seq (st_asg (d := pileD (pileAt s n)) (e_dget (k := .inr n) (e_piles Z (e_var rfl)) (e_var rfl) (piles_at ht hp)) g_name) h)
  have tH : EvTt K (tTest (tOp (gGe) (tCB (Cy.rLen K) (tCons (tVar 6) tNil)) (tVar 4))) G2 (decide (t2 ≤ ((pileAt s n).length : Int))) := t_test (e_op (e_is (e_cb (s_cons (e_var rfl) s_nil) n_lenL) (by rw [hlen])) (e_var rfl) d_geI)
  unfold t_Stacks__ask_space space
  by_cases h1 : t2 ≤ ((pileAt s n).length : Int)
  · rw [if_pos h1]
    rw [decide_eq_true h1] at tH
    exact .inr ⟨_, rfl, start (st_fire tH st_raise0 (fun _ q => nomatch q))⟩
  · rw [if_neg h1]
    rw [decide_eq_false h1] at tH
    have tW : EvTt K (tTest (tOp (gGt) (tOp (gAdd K) (tCB (rSum K) (tCons (tLc (iList K (tVar 6)) (gTup K 2 (gCons (gName 3) (gCons (gName 7) gNil))) tYes (tVar 7) [3, 7]) tNil)) (tVar 1)) (tVar 5))) G2 (decide (t3 < wsum (pileAt s n) + w)) := by
      refine t_test (e_op (e_op (e_cb (s_cons (e_is (e_share (o_lcM2 (by decide) (fun d => match d with | .tup [a, _] => a | _ => .non) (fun d => match d with | .tup [_, b] => b | _ => .non) sndD (it_list (e_var rfl)) (by rw [hlen]; omega) (fun d hd => ?_) (fun d hd => ?_))) (b := .lst (((pileAt s n).map fun b => b.2).map D.int)) (by rw [pile_fst])) s_nil) n_sum) (e_var rfl) d_addI) (e_var rfl) d_gtI)
      · obtain ⟨p, _, rfl⟩ := List.mem_map.mp hd
        rfl
      · obtain ⟨p, _, rfl⟩ := List.mem_map.mp hd
        exact e_var rfl
    by_cases h2 : t3 < wsum (pileAt s n) + w
    · rw [if_pos h2]
      rw [decide_eq_true h2] at tW
      exact .inr ⟨_, rfl, start (st_pass tH (st_if tW (fun _ => st_raise0) (fun q => nomatch q)))⟩
    · rw [if_neg h2]
      rw [decide_eq_false h2] at tW
      exact .inl ⟨rfl, _, start (st_pass tH (st_if tW (fun q => nomatch q) (fun _ => st_next)))⟩

theorem find_mem {α : Type} {n : Str} {t : α} : ∀ {l : List (Str × α)}, find l n = some t → (n, t) ∈ l
  | p :: l, h => by
    by_cases e : p.1 = n
    · rw [find_pos e] at h
      cases h
      rw [← e]
      exact List.mem_cons_self
    · rw [find_neg e] at h
      exact List.mem_cons_of_mem _ (find_mem h)
theorem find_snoc {α : Type} {b n : Str} {t : α} : ∀ {l : List (Str × α)}, find (l ++ [(b, t)]) n = match find l n with | some u => some u | none => if b = n then some t else none
  | [] => by
    by_cases e : b = n
    · rw [if_pos e]
      exact find_pos e
    · rw [if_neg e]
      exact find_neg e
  | p :: l => by
    by_cases e : p.1 = n
    · rw [List.cons_append, find_pos e, find_pos e]
    · rw [List.cons_append, find_neg e, find_neg e]
      exact find_snoc
theorem putE_new {l : List (Str × Str)} {b n : Str} (h : find l b = none) : putE (l.map fun p => ((.inr p.1 : Key), D.str p.2)) (.inr b) (.str n) = (l ++ [(b, n)]).map fun p => ((.inr p.1 : Key), D.str p.2) := by
  have hn : ((l.map fun p => ((.inr p.1 : Key), D.str p.2)).any fun kv => decide (kv.1 = .inr b)) = false := by
    rw [← Bool.not_eq_true]
    intro ha
    obtain ⟨kv, h1, h2⟩ := List.any_eq_true.mp ha
    obtain ⟨p, hp, rfl⟩ := List.mem_map.mp h1
    have e : p.1 = b := Sum.inr.inj (of_decide_eq_true h2)
    have : ∀ {l : List (Str × Str)}, p ∈ l → find l b ≠ none := fun {l} => by
      induction l with
      | nil => intro q; cases q
      | cons q l ih =>
        intro hq
        by_cases e2 : q.1 = b
        · rw [find_pos e2]
          exact fun z => nomatch z
        · rw [find_neg e2]
          rcases List.mem_cons.mp hq with z | z
          · subst z
            exact absurd e e2
          · exact ih z
    exact this hp h
  unfold putE
  rw [hn, List.map_append]
  rfl
theorem row_of {s : Stk} {n : Str} {t : Int × Int × Int} (ok : StkOk s) (h : tri s n = some t) : RowOk (n, t) := ok.ro.ok _ (find_mem h)
theorem pile_len {s : Stk} {n : Str} {t : Int × Int × Int} (ok : StkOk s) (h : tri s n = some t) : (pileAt s n).length ≤ 40 := by
  obtain ⟨h1, _⟩ := idx_lt h
  have hp := ok.pl
  unfold pileAt
  rw [List.getD_eq_getElem?_getD, List.getElem?_eq_getElem (by omega)]
  exact ok.few _ (List.getElem_mem _)
theorem idx_inj {n m : Str} : ∀ {rs : List Row} {t u : Int × Int × Int}, find rs n = some t → find rs m = some u → idx rs n = idx rs m → n = m
  | r :: rs, t, u, h1, h2, he => by
    unfold idx at he
    by_cases e1 : r.1 = n
    · by_cases e2 : r.1 = m
      · rw [← e1, e2]
      · rw [if_pos e1, if_neg e2] at he
        cases he
    · by_cases e2 : r.1 = m
      · rw [if_neg e1, if_pos e2] at he
        cases he
      · rw [if_neg e1, if_neg e2] at he
        rw [find_neg e1] at h1
        rw [find_neg e2] at h2
        exact idx_inj h1 h2 (Nat.succ.inj he)
theorem pileAt_put {s : Stk} {b n m : Str} {w : Int} {t u : Int × Int × Int} (ok : StkOk s) (h : tri s n = some t) (h2 : tri s m = some u) : pileAt (putS s b w n) m = if m = n then pileAt s n ++ [(b, w)] else pileAt s m := by
  obtain ⟨k1, _⟩ := idx_lt h
  obtain ⟨k2, _⟩ := idx_lt h2
  have hp := ok.pl
  by_cases e : m = n
  · subst e
    rw [if_pos rfl]
    show (s.piles.set (idx s.told m) (pileAt s m ++ [(b, w)])).getD (idx s.told m) [] = _
    rw [List.getD_eq_getElem?_getD, List.getElem?_set_self (by omega)]
    rfl
  · rw [if_neg e]
    show (s.piles.set (idx s.told n) (pileAt s n ++ [(b, w)])).getD (idx s.told m) [] = s.piles.getD (idx s.told m) []
    rw [List.getD_eq_getElem?_getD, List.getElem?_set_ne (fun z => e (idx_inj h h2 z).symm), List.getD_eq_getElem?_getD]
theorem put_ok {s : Stk} {b n : Str} {w : Int} {t : Int × Int × Int} (ok : StkOk s) (h : tri s n = some t) (hn : nmS n = true) (hl : s.lying.length ≤ 900) (hs : ((pileAt s n).length : Int) < t.2.1) (hf : find s.lying b = none) : StkOk (putS s b w n) where
  ro := ok.ro
  pl := by
    show (s.piles.set _ _).length = _
    rw [List.length_set]
    exact ok.pl
  few := fun p hp => by
    have hr := (row_of ok h).h1
    have hr' : t.2.1 ≤ 20 := hr
    rcases List.mem_or_eq_of_mem_set hp with z | z
    · exact ok.few p z
    · rw [z, List.length_append, List.length_singleton]
      omega
  ly := by
    show (s.lying ++ [(b, n)]).length ≤ 1000
    rw [List.length_append, List.length_singleton]
    omega
  at' := fun b' n' hb => by
    have hb2 : find (s.lying ++ [(b, n)]) b' = some n' := hb
    rw [find_snoc] at hb2
    have hk : nmS n' = true ∧ (tri s n').isSome = true ∧ (n' = n ∨ pileAt s n' ≠ []) := by
      cases q : find s.lying b' with
      | some m =>
        rw [q] at hb2
        cases hb2
        obtain ⟨a1, a2, a3⟩ := ok.at' b' n' q
        exact ⟨a1, a2, .inr a3⟩
      | none =>
        rw [q] at hb2
        dsimp only at hb2
        split at hb2
        · cases hb2
          exact ⟨hn, by rw [h]; rfl, .inl rfl⟩
        · cases hb2
    obtain ⟨k1, k2, k3⟩ := hk
    obtain ⟨u, hu⟩ := Option.isSome_iff_exists.mp k2
    refine ⟨k1, k2, ?_⟩
    rw [pileAt_put ok h hu]
    by_cases e : n' = n
    · rw [if_pos e]
      exact fun z => by simp at z
    · rw [if_neg e]
      exact k3.resolve_left e
theorem getD_memA {la : List Addr} {i : Nat} (h : i < la.length) : la.getD i 0 ∈ la := getD_in (0 : Addr) la i h
theorem getD_injA {la : List Addr} {i j : Nat} (hnd : la.Nodup) (hi : i < la.length) (hj : j < la.length) (h : la.getD i 0 = la.getD j 0) : i = j := by
  rw [List.getD_eq_getElem?_getD, List.getD_eq_getElem?_getD, List.getElem?_eq_getElem hi, List.getElem?_eq_getElem hj] at h
  have h2 : la[i] = la[j] := h
  have hp := List.pairwise_iff_getElem.mp hnd
  rcases Nat.lt_trichotomy i j with z | z | z
  · exact absurd h2 (hp i j hi hj z)
  · exact z
  · exact absurd h2.symm (hp j i hj hi z)
theorem valE_ptr {s : Stk} {n : Str} {t : Int × Int × Int} {la : List Addr} (h : tri s n = some t) (hl : la.length = s.told.length) : valE (pilesE s (la.map D.ptr)) (.inr n) = some (.ptr (la.getD (idx s.told n) 0)) := by
  obtain ⟨h1, _⟩ := idx_lt h
  unfold pilesE keysE
  rw [valE_zip (ps := la.map D.ptr) h (by rw [List.length_map, hl]), List.getElem?_map, List.getElem?_eq_getElem (by omega), List.getD_eq_getElem?_getD, List.getElem?_eq_getElem (by omega)]
  rfl
/-- a box laid down -/
theorem StkAt.put {C : Addr} {M : Sto} {x L : Addr} {la : List Addr} {s : Stk} {b n : Str} {w : Int} {t : Int × Int × Int} (h : StkAt C M x L la s) (ht : tri s n = some t) (hn : nmS n = true) (hl : s.lying.length ≤ 900) (hs : ((pileAt s n).length : Int) < t.2.1) (hf : find s.lying b = none) :
    StkAt C (updM (updM M (la.getD (idx s.told n) 0) (.lst ((pileAt s n).map boxD ++ [boxD (b, w)]))) L (.dic (putE (lyingE s) (.inr b) (.str n)))) x L la (putS s b w n) ∧ Same M (updM (updM M (la.getD (idx s.told n) 0) (.lst ((pileAt s n).map boxD ++ [boxD (b, w)]))) L (.dic (putE (lyingE s) (.inr b) (.str n)))) (x :: L :: la) := by
  obtain ⟨h1, _⟩ := idx_lt ht
  have hll := h.ll
  have hi : idx s.told n < la.length := by omega
  have hmem := getD_memA hi
  have hnd := h.nd
  rw [List.nodup_cons, List.nodup_cons] at hnd
  obtain ⟨n1, n2, n3⟩ := hnd
  have hxL : x ≠ L := fun z => n1 (z ▸ List.mem_cons_self)
  have hxp : x ≠ la.getD (idx s.told n) 0 := fun z => n1 (List.mem_cons_of_mem _ (z ▸ hmem))
  have hLp : L ≠ la.getD (idx s.told n) 0 := fun z => n2 (z ▸ hmem)
  refine ⟨⟨put_ok h.ok ht hn hl hs hf, ?_, ?_, h.ll, fun j hj => ?_, h.nd⟩, fun a ha => ?_⟩
  · rw [updM_ne hxL, updM_ne hxp]
    exact h.ins
  · rw [updM_same]
    show some (Nd.dic (putE (lyingE s) (.inr b) (.str n))) = some (.dic (lyingE (putS s b w n)))
    unfold lyingE
    rw [putE_new hf]
    rfl
  · have hjm := getD_memA hj
    have hjL : la.getD j 0 ≠ L := fun z => n2 (z ▸ hjm)
    rw [updM_ne hjL]
    have hp := h.ok.pl
    by_cases e : j = idx s.told n
    · subst e
      rw [updM_same]
      show _ = some (Nd.lst (((s.piles.set (idx s.told n) (pileAt s n ++ [(b, w)])).getD (idx s.told n) []).map boxD))
      rw [List.getD_eq_getElem?_getD, List.getElem?_set_self (by omega)]
      show _ = some (Nd.lst ((pileAt s n ++ [(b, w)]).map boxD))
      rw [List.map_append]
      rfl
    · rw [updM_ne (fun z => e (getD_injA n3 hj hi z)), h.pil j hj]
      show _ = some (Nd.lst (((s.piles.set (idx s.told n) (pileAt s n ++ [(b, w)])).getD j []).map boxD))
      rw [List.getD_eq_getElem?_getD, List.getD_eq_getElem?_getD, List.getElem?_set_ne (fun z => e z.symm)]
  · have a1 : a ≠ L := fun z => ha (z ▸ List.mem_cons_of_mem _ List.mem_cons_self)
    have a2 : a ≠ la.getD (idx s.told n) 0 := fun z => ha (z ▸ List.mem_cons_of_mem _ (List.mem_cons_of_mem _ hmem))
    rw [updM_ne a1, updM_ne a2]

theorem pileAt_take {s : Stk} {b n m : Str} {t u : Int × Int × Int} (ok : StkOk s) (h : tri s n = some t) (h2 : tri s m = some u) : pileAt (takeS s n b) m = if m = n then (pileAt s n).dropLast else pileAt s m := by
  obtain ⟨k1, _⟩ := idx_lt h
  obtain ⟨k2, _⟩ := idx_lt h2
  have hp := ok.pl
  by_cases e : m = n
  · subst e
    rw [if_pos rfl]
    show (s.piles.set (idx s.told m) (pileAt s m).dropLast).getD (idx s.told m) [] = _
    rw [List.getD_eq_getElem?_getD, List.getElem?_set_self (by omega)]
    rfl
  · rw [if_neg e]
    show (s.piles.set (idx s.told n) (pileAt s n).dropLast).getD (idx s.told m) [] = s.piles.getD (idx s.told m) []
    rw [List.getD_eq_getElem?_getD, List.getElem?_set_ne (fun z => e (idx_inj h h2 z).symm), List.getD_eq_getElem?_getD]
theorem full_new {rs : List Row} : StkFull (newS rs) := by
  have he : ∀ n, pileAt (newS rs) n = [] := fun n => by
    unfold pileAt
    show (rs.map fun _ => ([] : List (Str × Int))).getD (idx rs n) [] = []
    rw [List.getD_eq_getElem?_getD, List.getElem?_map]
    cases rs[idx rs n]? <;> rfl
  refine ⟨fun b n => ⟨(fun h => by cases h), fun ⟨t, _, h⟩ => ?_⟩, fun n t _ => ?_, fun n t _ p hp => ?_⟩
  · rw [he] at h
    cases h
  · rw [he]
    exact List.nodup_nil
  · rw [he] at hp
    cases hp
theorem full_put {s : Stk} {b n : Str} {w : Int} {t : Int × Int × Int} (f : StkFull s) (ok : StkOk s) (ht : tri s n = some t) (hb : nmS b = true) (hl : find s.lying b = none) : StkFull (putS s b w n) := by
  have htri : ∀ m, tri (putS s b w n) m = tri s m := fun m => rfl
  have hnot : ∀ m u, tri s m = some u → b ∉ (pileAt s m).map fun p => p.1 := fun m u hu hm => by
    have := (f.ly b m).mpr ⟨u, hu, hm⟩
    rw [hl] at this
    cases this
  have hfind : ∀ c, find (putS s b w n).lying c = match find s.lying c with | some u => some u | none => if b = c then some n else none := fun c => by
    have z := find_snoc (l := s.lying) (b := b) (t := n) (n := c)
    cases q : find s.lying c with
    | none =>
      rw [q] at z
      exact z
    | some u =>
      rw [q] at z
      exact z
  refine ⟨fun c m => ?_, fun m u hu => ?_, fun m u hu p hp => ?_⟩
  · rw [hfind c, htri m]
    constructor
    · intro h
      cases q : find s.lying c with
      | some m' =>
        rw [q] at h
        have e : m' = m := Option.some.inj h
        subst e
        obtain ⟨u, hu, hm⟩ := (f.ly c m').mp q
        refine ⟨u, hu, ?_⟩
        rw [pileAt_put ok ht hu]
        split
        · rename_i e
          subst e
          rw [List.map_append]
          exact List.mem_append_left _ hm
        · exact hm
      | none =>
        rw [q] at h
        by_cases e : b = c
        · have h' : (if b = c then some n else none) = some m := h
          rw [if_pos e] at h'
          have e2 : n = m := Option.some.inj h'
          subst e2
          refine ⟨t, ht, ?_⟩
          rw [pileAt_put ok ht ht, if_pos rfl, List.map_append]
          exact List.mem_append_right _ (List.mem_singleton.mpr e.symm)
        · have h' : (if b = c then some n else none) = some m := h
          rw [if_neg e] at h'
          cases h'
    · rintro ⟨u, hu, hm⟩
      rw [pileAt_put ok ht hu] at hm
      by_cases e : m = n
      · subst e
        rw [if_pos rfl, List.map_append] at hm
        rcases List.mem_append.mp hm with y | y
        · rw [(f.ly c m).mpr ⟨u, hu, y⟩]
        · have e2 : c = b := List.mem_singleton.mp y
          subst e2
          rw [hl]
          exact if_pos rfl
      · rw [if_neg e] at hm
        rw [(f.ly c m).mpr ⟨u, hu, hm⟩]
  · rw [htri] at hu
    rw [pileAt_put ok ht hu]
    split
    · rename_i e
      subst e
      rw [List.map_append]
      refine List.nodup_append.mpr ⟨f.nd m u hu, List.nodup_cons.mpr ⟨(fun h => nomatch h), List.nodup_nil⟩, fun a ha c hc => ?_⟩
      have : c = b := List.mem_singleton.mp hc
      subst this
      exact fun q => hnot m u hu (q ▸ ha)
    · exact f.nd m u hu
  · rw [htri] at hu
    rw [pileAt_put ok ht hu] at hp
    split at hp
    · rename_i e
      subst e
      rcases List.mem_append.mp hp with y | y
      · exact f.nm m u hu p y
      · rw [List.mem_singleton.mp y]
        exact hb
    · exact f.nm m u hu p hp
theorem full_take {s : Stk} {b n : Str} {w : Int} {t : Int × Int × Int} {l : List (Str × Int)} (f : StkFull s) (ok : StkOk s) (ht : tri s n = some t) (hp : pileAt s n = l ++ [(b, w)]) : StkFull (takeS s n b) := by
  have hd : (pileAt s n).dropLast = l := by
    rw [hp, List.dropLast_concat]
  have hnd := f.nd n t ht
  rw [hp, List.map_append] at hnd
  have hbl : b ∉ l.map fun p => p.1 := fun q => (List.nodup_append.mp hnd).2.2 b q b (List.mem_singleton.mpr rfl) rfl
  have hbn : find s.lying b = some n := (f.ly b n).mpr ⟨t, ht, by rw [hp, List.map_append]; exact List.mem_append_right _ (List.mem_singleton.mpr rfl)⟩
  refine ⟨fun c m => ?_, fun m u hu => ?_, fun m u hu p hpp => ?_⟩
  · show find (s.lying.filter fun p => decide (p.1 ≠ b)) c = some m ↔ ∃ t, tri s m = some t ∧ _
    rw [find_filter]
    constructor
    · intro h
      by_cases e : c = b
      · rw [if_pos e] at h
        cases h
      · rw [if_neg e] at h
        obtain ⟨u, hu, hm⟩ := (f.ly c m).mp h
        refine ⟨u, hu, ?_⟩
        rw [pileAt_take ok ht hu]
        split
        · rename_i e2
          subst e2
          rw [hd]
          rw [hp, List.map_append] at hm
          rcases List.mem_append.mp hm with y | y
          · exact y
          · exact absurd (List.mem_singleton.mp y) e
        · exact hm
    · rintro ⟨u, hu, hm⟩
      rw [pileAt_take ok ht hu] at hm
      by_cases e2 : m = n
      · subst e2
        rw [if_pos rfl, hd] at hm
        have e : c ≠ b := fun q => hbl (q ▸ hm)
        rw [if_neg e]
        exact (f.ly c m).mpr ⟨u, hu, by rw [hp, List.map_append]; exact List.mem_append_left _ hm⟩
      · rw [if_neg e2] at hm
        have hcm := (f.ly c m).mpr ⟨u, hu, hm⟩
        have e : c ≠ b := fun q => by
          rw [q, hbn] at hcm
          exact e2 (Option.some.inj hcm).symm
        rw [if_neg e]
        exact hcm
  · have hu' : tri s m = some u := hu
    rw [pileAt_take ok ht hu']
    split
    · rw [hd]
      exact (List.nodup_append.mp hnd).1
    · exact f.nd m u hu'
  · have hu' : tri s m = some u := hu
    rw [pileAt_take ok ht hu'] at hpp
    split at hpp
    · rw [hd] at hpp
      exact f.nm n t ht p (by rw [hp]; exact List.mem_append_left _ hpp)
    · exact f.nm m u hu' p hpp
theorem take_ok {s : Stk} {b n : Str} {w : Int} {t : Int × Int × Int} {l : List (Str × Int)} (f : StkFull s) (ok : StkOk s) (ht : tri s n = some t) (hp : pileAt s n = l ++ [(b, w)]) : StkOk (takeS s n b) := by
  have ff := full_take f ok ht hp
  refine ⟨ok.ro, by show (s.piles.set _ _).length = _; rw [List.length_set]; exact ok.pl, fun p hpp => ?_, Nat.le_trans (List.length_filter_le _ _) ok.ly, fun c m h => ?_⟩
  · rcases List.mem_or_eq_of_mem_set hpp with y | y
    · exact ok.few p y
    · rw [y, List.length_dropLast]
      have := pile_len ok ht
      omega
  · obtain ⟨u, hu, hm⟩ := (ff.ly c m).mp h
    refine ⟨(row_of ok hu).nm, by show (tri s m).isSome = true; have hu' : tri s m = some u := hu; rw [hu']; rfl, fun q => ?_⟩
    rw [q] at hm
    cases hm
theorem dropE_lying {s : Stk} {b : Str} : dropE (lyingE s) (.inr b) = (s.lying.filter fun p => decide (p.1 ≠ b)).map fun p => ((.inr p.1 : Key), D.str p.2) := by
  unfold dropE lyingE
  rw [List.filter_map]
  congr 1
  refine List.filter_congr fun p _ => ?_
  show decide ((Sum.inr p.1 : Key) ≠ .inr b) = decide (p.1 ≠ b)
  exact decide_eq_decide.mpr ⟨fun h q => h (by rw [q]), fun h q => h (Sum.inr.inj q)⟩
/-- a box taken away -/
theorem StkAt.take {C : Addr} {M : Sto} {x L : Addr} {la : List Addr} {s : Stk} {b n : Str} {w : Int} {t : Int × Int × Int} {l : List (Str × Int)} (h : StkAt C M x L la s) (f : StkFull s) (ht : tri s n = some t) (hp : pileAt s n = l ++ [(b, w)]) :
    StkAt C (updM (updM M (la.getD (idx s.told n) 0) (.lst ((l ++ [(b, w)]).map boxD).dropLast)) L (.dic (dropE (lyingE s) (.inr b)))) x L la (takeS s n b) ∧ Same M (updM (updM M (la.getD (idx s.told n) 0) (.lst ((l ++ [(b, w)]).map boxD).dropLast)) L (.dic (dropE (lyingE s) (.inr b)))) (x :: L :: la) := by
  obtain ⟨h1, _⟩ := idx_lt ht
  have hll := h.ll
  have hi : idx s.told n < la.length := by omega
  have hmem := getD_memA hi
  have hnd := h.nd
  rw [List.nodup_cons, List.nodup_cons] at hnd
  obtain ⟨n1, n2, n3⟩ := hnd
  have hxL : x ≠ L := fun z => n1 (z ▸ List.mem_cons_self)
  have hxp : x ≠ la.getD (idx s.told n) 0 := fun z => n1 (List.mem_cons_of_mem _ (z ▸ hmem))
  have hLp : L ≠ la.getD (idx s.told n) 0 := fun z => n2 (z ▸ hmem)
  have hdl : ((l ++ [(b, w)]).map boxD).dropLast = l.map boxD := by
    rw [List.map_append]
    exact List.dropLast_concat
  have hd : (pileAt s n).dropLast = l := by
    rw [hp, List.dropLast_concat]
  refine ⟨⟨take_ok f h.ok ht hp, ?_, ?_, h.ll, fun j hj => ?_, h.nd⟩, fun a ha => ?_⟩
  · rw [updM_ne hxL, updM_ne hxp]
    exact h.ins
  · rw [updM_same, dropE_lying]
    rfl
  · have hjm := getD_memA hj
    have hjL : la.getD j 0 ≠ L := fun z => n2 (z ▸ hjm)
    rw [updM_ne hjL]
    have hpl := h.ok.pl
    by_cases e : j = idx s.told n
    · subst e
      rw [updM_same, hdl]
      show _ = some (Nd.lst (((s.piles.set (idx s.told n) (pileAt s n).dropLast).getD (idx s.told n) []).map boxD))
      rw [List.getD_eq_getElem?_getD, List.getElem?_set_self (by omega), hd]
      rfl
    · rw [updM_ne (fun z => e (getD_injA n3 hj hi z)), h.pil j hj]
      show _ = some (Nd.lst (((s.piles.set (idx s.told n) (pileAt s n).dropLast).getD j []).map boxD))
      rw [List.getD_eq_getElem?_getD, List.getD_eq_getElem?_getD, List.getElem?_set_ne (fun z => e z.symm)]
  · have a1 : a ≠ L := fun z => ha (z ▸ List.mem_cons_of_mem _ List.mem_cons_self)
    have a2 : a ≠ la.getD (idx s.told n) 0 := fun z => ha (z ▸ List.mem_cons_of_mem _ (List.mem_cons_of_mem _ hmem))
    rw [updM_ne a1, updM_ne a2]

theorem no_nx {C : Addr} {M M' : Sto} {X : XK} {G : List Sl} : ¬ OutP (excP C M) X (.nx G) M' := fun h => nomatch h.1
theorem rd_Stacks_put (K : PySem.W.Frag) (Z : CF K A) {ds : List D} {M : Sto} {P : Res → Sto → Prop} (E : XK) (h : R_Stacks_put A ds M P) : StM K (t_Stacks_put K A E) M (args nm_Stacks_put.length ds) (OutP P E) := by
  obtain ⟨x, L, la, s, b, w, st, rfl, hat, hb, hw, hst, hc⟩ := h
  let G : List Sl := [.dat (.ptr x), .dat b, .dat w, .dat st]
  have vw : VwG M G [.dat (stkD A.c_Stacks s), .dat b, .dat w, .dat st] := .dat hat.vw (.keep (.keep (.keep .nil)))
  have t1 : TtR K (tNot (tB (tCall (sp_is_name K A) [] E0 (tCons (tVar 1) tNil)))) M G (!isName b) := t_pure (t_not (t_B (e_call (s_cons (e_var rfl) s_nil) ⟨b, rfl, hb, rfl⟩)))
  have t2 : TtR K (tNot (tB (tCall (sp_is_among K A) [] E0 (tCons (tVar 2) (tCons (tC (.int 1)) (tCons (tC (.int 1000000000000)) tNil)))))) M G (!amongI w 1 1000000000000) := t_pure (t_not (t_B (e_call (s_cons (e_var rfl) (s_cons e_int (s_cons e_int s_nil))) ⟨w, 1, 1000000000000, rfl, sh_no hw, rfl⟩)))
  have t3 : TtR K (tB (tMeth A.c_Stacks "_lies" (sp_Stacks__lies K A) [] E0 (tVar 0) (tCons (tVar 1) tNil))) M G (lies s b) := t_view vw (t_B (e_meth (e_var rfl) rfl (s_cons (e_var rfl) s_nil) ⟨s, b, rfl, hb, rfl⟩))
  unfold t_Stacks_put
  show StM K _ M G _
  rcases hc with ⟨h1, rfl⟩ | ⟨h1, h2, rfl⟩ | ⟨h1, h2, h3, rfl⟩ | ⟨h1, h2, h3, h4, rfl⟩ | ⟨bn, wn, n, t, rfl, rfl, rfl, h1, h2, h3, ht, h4, h5, hc⟩
  · rw [h1] at t1
    exact m_fire t1 (m_raise0 ⟨rfl, rfl, rfl⟩) fun _ _ => no_nx
  · rw [h1] at t1
    rw [h2] at t2
    exact m_pass t1 (m_fire t2 (m_raise0 ⟨rfl, rfl, rfl⟩) fun _ _ => no_nx)
  · rw [h1] at t1
    rw [h2] at t2
    exact m_pass t1 (m_pass t2 (m_stop (m_dropX (P := OutP (excP A.c_NoStack M) E) (te := fun E => tMethE A.c_Stacks "_ask_stack" (sp_Stacks__ask_stack K A) E (tVar 0) (tCons (tVar 3) tNil)) (rs_meth (C := A.c_NoStack) (e_var rfl) rfl (s_cons (e_var rfl) s_nil) ⟨s, st, rfl, hst, by rw [if_neg (by rw [h3]; decide)]⟩) vw ⟨rfl, rfl, rfl⟩) (fun _ _ => no_nx) fun _ _ q => q))
  · rw [h1] at t1
    rw [h2] at t2
    rw [h4] at t3
    exact m_pass t1 (m_pass t2 (m_seq1 (m_view (e_methX (d := .non) (e_var rfl) rfl (s_cons (e_var rfl) s_nil) ⟨s, st, rfl, hst, by rw [if_pos h3]⟩) vw ⟨rfl, rfl⟩) (m_fire t3 (m_raise0 ⟨rfl, rfl, rfl⟩) fun _ _ => no_nx)))
  · have hn1 : isName (.str bn) = true := h1
    rw [hn1] at t1
    rw [h2] at t2
    rw [h4] at t3
    have hp := hat.ok.pl
    have hfew := pile_len hat.ok ht
    have hf : find s.lying bn = none := by
      cases q : find s.lying bn with
      | none => rfl
      | some m =>
        rw [lies_no h1 q] at h4
        cases h4
    refine m_pass t1 (m_pass t2 (m_seq1 (m_view (e_methX (d := .non) (e_var rfl) rfl (s_cons (e_var rfl) s_nil) ⟨s, .str n, rfl, hst, by rw [if_pos (known_no h3 ht)]⟩) vw ⟨rfl, rfl⟩) (m_pass t3 ?_)))
    rcases hc with ⟨C, hs, rfl⟩ | ⟨hs, rfl⟩
    · exact m_stop (m_dropX (P := OutP (excP C M) E) (te := fun E => tMethE A.c_Stacks "_ask_space" (sp_Stacks__ask_space K A) E (tVar 0) (tCons (tVar 2) (tCons (tVar 3) tNil))) (rs_meth (C := C) (e_var rfl) rfl (s_cons (e_var rfl) (s_cons (e_var rfl) s_nil)) ⟨s, wn, n, t, rfl, ht, hp, hfew, hs.symm⟩) vw ⟨rfl, rfl, rfl⟩) (fun _ _ => no_nx) fun _ _ q => q
    · have hlt : ((pileAt s n).length : Int) < t.2.1 := by
        unfold space at hs
        by_cases q : t.2.1 ≤ ((pileAt s n).length : Int)
        · rw [if_pos q] at hs
          cases hs
        · omega
      obtain ⟨h1i, _⟩ := idx_lt ht
      have hll := hat.ll
      have hi : idx s.told n < la.length := by omega
      have hnd := hat.nd
      rw [List.nodup_cons, List.nodup_cons] at hnd
      obtain ⟨n1, n2, n3⟩ := hnd
      have hxp : x ≠ la.getD (idx s.told n) 0 := fun z => n1 (List.mem_cons_of_mem _ (z ▸ getD_memA hi))
      have hLp : L ≠ la.getD (idx s.told n) 0 := fun z => n2 (z ▸ getD_memA hi)
      have fin := hat.put (b := bn) (w := wn) ht h3 h5 hlt hf
      refine m_seq1 (m_view (e_methX (d := .non) (e_var rfl) rfl (s_cons (e_var rfl) (s_cons (e_var rfl) s_nil)) ⟨s, wn, n, t, rfl, ht, hp, hfew, hs.symm⟩) vw ⟨rfl, rfl⟩) ?_
      refine m_seq1 (m_app (r_dget (k := .inr n) (r_fld (r_pure (e_var rfl)) hat.ins Z.cl_Stacks Z.n_Stacks__piles rfl) (r_pure (e_var rfl)) (valE_ptr ht hll)) (hat.pil _ hi) (r_tup (sr_cons (r_pure (e_var rfl)) (sr_cons (r_pure (e_var rfl)) sr_nil)) (by show 2 ≤ 100000; decide)) ?_ ⟨rfl, rfl⟩) ?_
      · rw [List.length_map]
        show (pileAt s n).length < 100000
        omega
      · refine m_dput (p := L) (es := lyingE s) (k := .inr bn) (r_pure (e_var rfl)) (r_fld (r_pure (e_var rfl)) (by rw [updM_ne hxp]; exact hat.ins) Z.cl_Stacks Z.n_Stacks__lying rfl) (by rw [updM_ne hLp]; exact hat.lyi) (r_pure (e_var rfl)) ?_ ⟨rfl, fin⟩
        unfold lyingE
        rw [List.length_map]
        have := hat.ok.ly
        omega
theorem rd_Stacks_take (K : PySem.W.Frag) (Z : CF K A) {ds : List D} {M : Sto} {P : Res → Sto → Prop} (E : XK) (h : R_Stacks_take A ds M P) : StM K (t_Stacks_take K A E) M (args nm_Stacks_take.length ds) (OutP P E) := by
  obtain ⟨x, L, la, s, st, rfl, hat, hst, hc⟩ := h
  let G : List Sl := [.dat (.ptr x), .dat st, .no, .no]
  have vw : VwG M G [.dat (stkD A.c_Stacks s), .dat st, .no, .no] := .dat hat.vw (.keep (.keep (.keep .nil)))
  unfold t_Stacks_take
  show StM K _ M G _
  rcases hc with ⟨h3, rfl⟩ | ⟨n, t, rfl, hn, ht, hc⟩
  · exact m_stop (m_dropX (P := OutP (excP A.c_NoStack M) E) (te := fun E => tMethE A.c_Stacks "_ask_stack" (sp_Stacks__ask_stack K A) E (tVar 0) (tCons (tVar 1) tNil)) (rs_meth (C := A.c_NoStack) (e_var rfl) rfl (s_cons (e_var rfl) s_nil) ⟨s, st, rfl, hst, by rw [if_neg (by rw [h3]; decide)]⟩) vw ⟨rfl, rfl, rfl⟩) (fun _ _ => no_nx) fun _ _ q => q
  · have tE : TtR K (tNot (tTru2 K (tDGet (tFld K (tVar 0) "_piles") (tVar 1)))) M G (!(!((pileAt s n).map boxD).isEmpty)) := t_view vw (t_not (t_tru (e_dget (k := .inr n) (e_piles Z (e_var rfl)) (e_var rfl) (piles_at ht hat.ok.pl))))
    refine m_seq1 (m_view (e_methX (d := .non) (e_var rfl) rfl (s_cons (e_var rfl) s_nil) ⟨s, .str n, rfl, hst, by rw [if_pos (known_no hn ht)]⟩) vw ⟨rfl, rfl⟩) ?_
    rcases hc with ⟨he, rfl⟩ | ⟨l, b, w, he, hb, hf, rfl⟩
    · rw [he] at tE
      exact m_fire tE (m_raise0 ⟨rfl, rfl, rfl⟩) fun _ _ => no_nx
    · obtain ⟨h1i, _⟩ := idx_lt ht
      have hll := hat.ll
      have hi : idx s.told n < la.length := by omega
      have hnd := hat.nd
      rw [List.nodup_cons, List.nodup_cons] at hnd
      obtain ⟨n1, n2, n3⟩ := hnd
      have hxp : x ≠ la.getD (idx s.told n) 0 := fun z => n1 (List.mem_cons_of_mem _ (z ▸ getD_memA hi))
      have hLp : L ≠ la.getD (idx s.told n) 0 := fun z => n2 (z ▸ getD_memA hi)
      have hcell : M (la.getD (idx s.told n) 0) = some (.lst ((pileAt s n).map boxD)) := hat.pil _ hi
      rw [he] at tE hcell
      have tE' := tr_is tE (y := false) (by rw [List.map_append]; cases l <;> rfl)
      refine m_pass tE' ?_
      refine m_seq1 (M1 := updM M (la.getD (idx s.told n) 0) (.lst ((l ++ [(b, w)]).map boxD).dropLast)) (G1 := [.dat (.ptr x), .dat (.str n), .dat (.str b), .dat (.int w)]) (m_asgM (X := E) (R := fun r M' => r = .ok (boxD (b, w)) ∧ M' = updM M (la.getD (idx s.told n) 0) (.lst ((l ++ [(b, w)]).map boxD).dropLast)) (e_mpop (r_dget (k := .inr n) (r_fld (r_pure (e_var rfl)) hat.ins Z.cl_Stacks Z.n_Stacks__piles rfl) (r_pure (e_var rfl)) (valE_ptr ht hll)) hcell ?_ ⟨rfl, rfl⟩) (fun _ => [.dat (.ptr x), .dat (.str n), .dat (.str b), .dat (.int w)]) (fun d M' k => ?_) (fun d M' k => ⟨rfl, k.2⟩) (fun C M' k => nomatch k.1)) ?_
      · rw [List.length_map, List.length_append, List.length_singleton, List.map_append]
        have : l.length + 1 - 1 = (l.map boxD).length := by rw [List.length_map]; omega
        rw [this, List.getElem?_append_right (Nat.le_refl _), Nat.sub_self]
        rfl
      · obtain ⟨k1, _⟩ := k
        cases k1
        exact gm_tup (gms_cons gm_name (gms_cons gm_name gms_nil)) rfl
      · refine m_seq1 (m_ddel (p := L) (es := lyingE s) (k := .inr b) (r_fld (r_pure (e_var rfl)) (by rw [updM_ne hxp]; exact hat.ins) Z.cl_Stacks Z.n_Stacks__lying rfl) (by rw [updM_ne hLp]; exact hat.lyi) (r_pure (e_var rfl)) ?_ ⟨rfl, rfl⟩) (m_ret (r_tup (sr_cons (r_pure (e_var rfl)) (sr_cons (r_pure (e_var rfl)) sr_nil)) (by show 2 ≤ 100000; decide)) ⟨rfl, fun full => hat.take full ht he⟩)
        rw [lying_at, Option.isSome_map]
        exact hf

theorem new_ok {rs : List Row} (h : RowsOk rs) : StkOk (newS rs) where
  ro := h
  pl := by
    show (rs.map fun _ => []).length = rs.length
    rw [List.length_map]
  few := fun p hp => by
    obtain ⟨r, _, rfl⟩ := List.mem_map.mp hp
    exact Nat.zero_le _
  ly := Nat.zero_le _
  at' := fun b n hb => by cases hb
def fldT (d : D) (i : Nat) : D := match d with
  | .tup xs => xs.getD i .non
  | _ => .non
theorem toldE_rows (rs : List Row) : ((rs.map rowD).map fun d => (keyN d, id d)) = toldE (newS rs) := by
  rw [List.map_map]
  rfl
theorem pilesE_new {rs : List Row} {ps : List D} : ((toldE (newS rs)).map fun p => p.1).zip ps = pilesE (newS rs) ps := by
  unfold pilesE keysE toldE
  rw [List.map_map]
  rfl
theorem rd_Stacks_init (K : PySem.W.Frag) (Z : CF K A) {x : Addr} {ds : List D} {M : Sto} {P : Res → Sto → Prop} (E : XK) (hM : M x = none) (h : R_Stacks_init A x ds M P) : StM K (t_Stacks_init K A E) (updM M x (.ins A.c_Stacks [])) (args nm_Stacks_init.length (.ptr x :: ds)) (OutI P E) := by
  unfold t_Stacks_init
  rcases h with ⟨rs, rfl, ok, rfl⟩ | ⟨z, rfl, hz, hf, rfl⟩
  · have hl : (rs.map rowD).length = rs.length := List.length_map ..
    have l1 := ok.l1
    let G : List Sl := [.dat (.ptr x), .dat (.lst (rs.map rowD)), .no, .no]
    have t1 : TtR K (tNot (tB (tCall (sp_are_stacks K A) [] E0 (tCons (tVar 1) tNil)))) (updM M x (.ins A.c_Stacks [])) G false := t_pure (t_is (t_not (t_B (e_call (s_cons (e_var rfl) s_nil) ⟨.lst (rs.map rowD), rfl, rows_thing ok, rfl⟩))) (by show (!areL (rs.map rowD)) = false; rw [rows_are ok]; rfl))
    show StM K _ _ G _
    refine m_pass t1 ?_
    have hdict : EvD K (tDc (iList K (tVar 1)) (gName 2) tYes (tOp (gIx K) (tVar 2) (tC (.int 0))) (tVar 2) [2]) G (.dic (toldE (newS rs))) := by
      refine e_is (e_dcL keyN id (fun d => (wipeG G [2]).set 2 (.dat d)) (keeps_of (kw_name (by decide))) (it_list (e_var rfl)) (by rw [hl]; omega) ?_ (fun d hd => ?_) (fun d hd => ?_) (fun d hd => ?_)) (by rw [toldE_rows])
      · rw [keysN]
        exact nodup_map_inj (f := (Sum.inr : Str → Key)) (fun a b q => Sum.inr.inj q) ok.nn
      · obtain ⟨r, _, rfl⟩ := List.mem_map.mp hd
        exact g_name
      · obtain ⟨r, _, rfl⟩ := List.mem_map.mp hd
        exact e_op (e_var rfl) e_int (d_ixT (by rfl))
      · obtain ⟨r, _, rfl⟩ := List.mem_map.mp hd
        exact e_var rfl
    let M2 : Sto := updM (updM M x (.ins A.c_Stacks [])) x (.ins A.c_Stacks [("_told", .dic (toldE (newS rs)))])
    have hx2 : M2 x = some (.ins A.c_Stacks [("_told", .dic (toldE (newS rs)))]) := updM_same
    have hM2 : ∀ {a : Addr}, M2 a = none → a ≠ x ∧ M a = none := fun {a} q => by
      have hne : a ≠ x := fun e => by
        rw [e, hx2] at q
        cases q
      refine ⟨hne, ?_⟩
      have q2 : updM (updM M x (.ins A.c_Stacks [])) x (.ins A.c_Stacks [("_told", .dic (toldE (newS rs)))]) a = none := q
      rw [updM_ne hne, updM_ne hne] at q2
      exact q2
    refine m_seq1 (M1 := M2) (G1 := G) (m_fld (C := A.c_Stacks) (p := x) (X := E) (R := fun r M' => r = .ok (.dic (toldE (newS rs))) ∧ M' = updM M x (.ins A.c_Stacks [])) (e_mr (r_pure hdict) ⟨rfl, rfl⟩) (fun d M' k => ?_) Z.cl_Stacks Z.n_Stacks__told (fun C M' k => nomatch k.1)) ?_
    · obtain ⟨k1, rfl⟩ := k
      cases k1
      exact ⟨r_pure (e_var rfl), [], updM_same, by decide, rfl, rfl⟩
    refine m_seq (P1 := fun o M' => o = .nx G ∧ ∃ la : List Addr, la.length = rs.length ∧ la.Nodup ∧ (∀ a ∈ la, M2 a = none) ∧ M' = updM (updL M2 la (.lst [])) x (.ins A.c_Stacks [("_told", .dic (toldE (newS rs))), ("_piles", .dic (pilesE (newS rs) (la.map D.ptr)))])) (m_fld (C := A.c_Stacks) (p := x) (X := E) (R := fun r M' => ∃ la : List Addr, la.length = rs.length ∧ la.Nodup ∧ (∀ a ∈ la, M2 a = none) ∧ r = .ok (.dic (pilesE (newS rs) (la.map D.ptr))) ∧ M' = updL M2 la (.lst [])) (e_dcNew (fs := [("_told", .dic (toldE (newS rs)))]) (es := toldE (newS rs)) (by decide) (by show 3 < 4; decide) rfl hx2 Z.cl_Stacks Z.n_Stacks__told rfl ?_ ?_ (fun la h1 h2 h3 => ⟨la, ?_, h2, h3, by rw [pilesE_new], rfl⟩)) (fun d M' k => ?_) Z.cl_Stacks Z.n_Stacks__piles (fun C M' k => by obtain ⟨la, _, _, _, k1, _⟩ := k; cases k1)) (fun G1 M3 k => ?_) (fun o M' k hn => absurd k.1 (hn _))
    · unfold toldE
      rw [List.map_map]
      show (rs.map ((fun p => p.1) ∘ fun r => ((.inr r.1 : Key), triD r.1 r.2))).Nodup
      have : (rs.map ((fun p => p.1) ∘ fun r => ((.inr r.1 : Key), triD r.1 r.2))) = (rs.map fun r => r.1).map Sum.inr := by
        rw [List.map_map]
        rfl
      rw [this]
      exact nodup_map_inj (f := (Sum.inr : Str → Key)) (fun a b q => Sum.inr.inj q) ok.nn
    · unfold toldE
      rw [List.length_map]
      show rs.length ≤ 1000
      omega
    · rw [h1]
      unfold toldE
      rw [List.length_map]
      rfl
    · obtain ⟨la, h1, h2, h3, k1, rfl⟩ := k
      cases k1
      have hxl : x ∉ la := fun q => by
        rw [h3 x q] at hx2
        cases hx2
      exact ⟨r_pure (e_var rfl), _, by rw [updL_out hxl]; exact hx2, by show 1 < 1000; decide, rfl, la, h1, h2, h3, rfl⟩
    · obtain ⟨k0, la, h1, h2, h3, rfl⟩ := k
      cases k0
      have hxl : x ∉ la := fun q => by
        rw [h3 x q] at hx2
        cases hx2
      let M3 : Sto := updM (updL M2 la (.lst [])) x (.ins A.c_Stacks [("_told", .dic (toldE (newS rs))), ("_piles", .dic (pilesE (newS rs) (la.map D.ptr)))])
      have hx3 : M3 x = some (.ins A.c_Stacks [("_told", .dic (toldE (newS rs))), ("_piles", .dic (pilesE (newS rs) (la.map D.ptr)))]) := updM_same
      refine m_of (P1 := fun o M' => o = .nx G ∧ ∃ L, M3 L = none ∧ M' = updM (updM M3 L (.dic [])) x (.ins A.c_Stacks (stkFs (newS rs) (la.map D.ptr) (.ptr L)))) (m_fld (C := A.c_Stacks) (p := x) (X := E) (R := fun r M' => ∃ L, M3 L = none ∧ r = .ok (.ptr L) ∧ M' = updM M3 L (.dic [])) (e_mdnew fun L hL => ⟨L, hL, rfl, rfl⟩) (fun d M' k => ?_) Z.cl_Stacks Z.n_Stacks__lying (fun C M' k => by obtain ⟨L, _, k1, _⟩ := k; cases k1)) (fun o M' k => ?_)
      · obtain ⟨L, hL, k1, rfl⟩ := k
        cases k1
        have hxL : x ≠ L := fun q => by
          subst q
          rw [hx3] at hL
          cases hL
        exact ⟨r_pure (e_var rfl), _, by rw [updM_ne hxL]; exact hx3, by show 2 < 1000; decide, rfl, L, hL, rfl⟩
      · obtain ⟨rfl, L, hL, rfl⟩ := k
        have hxL : x ≠ L := fun q => by
          subst q
          rw [hx3] at hL
          cases hL
        have hL2 : L ∉ la ∧ M2 L = none := by
          have q : updM (updL M2 la (.lst [])) x (.ins A.c_Stacks [("_told", .dic (toldE (newS rs))), ("_piles", .dic (pilesE (newS rs) (la.map D.ptr)))]) L = none := hL
          rw [updM_ne hxL.symm] at q
          have hl : L ∉ la := fun y => by
            rw [updL_in y] at q
            cases q
          rw [updL_out hl] at q
          exact ⟨hl, q⟩
        have hLM := hM2 hL2.2
        have hlaM : ∀ a ∈ la, a ≠ x ∧ M a = none := fun a ha => hM2 (h3 a ha)
        refine ⟨rfl, L, la, ⟨new_ok ok, updM_same, ?_, h1, fun i hi => ?_, ?_⟩, fun a n q => ?_, fun a ha => ?_⟩
        · rw [updM_ne hxL.symm, updM_same]
          rfl
        · have hm := getD_memA hi
          have n1 : la.getD i 0 ≠ x := fun q => hxl (q ▸ hm)
          have n2 : la.getD i 0 ≠ L := fun q => hL2.1 (q ▸ hm)
          rw [updM_ne n1, updM_ne n2]
          show updM (updL M2 la (.lst [])) x _ (la.getD i 0) = _
          rw [updM_ne n1, updL_in hm]
          have : (newS rs).piles.getD i [] = [] := by
            show (rs.map fun _ => ([] : List (Str × Int))).getD i [] = []
            rw [List.getD_eq_getElem?_getD, List.getElem?_map, List.getElem?_eq_getElem (by omega)]
            rfl
          rw [this]
          rfl
        · rw [List.nodup_cons, List.nodup_cons]
          refine ⟨fun q => ?_, hL2.1, h2⟩
          rcases List.mem_cons.mp q with y | y
          · exact hxL y
          · exact hxl y
        · have a1 : a ≠ x := fun y => by
            subst y
            rw [hM] at q
            cases q
          have a2 : a ≠ L := fun y => by
            subst y
            rw [hLM.2] at q
            cases q
          have a3 : a ∉ la := fun y => by
            rw [(hlaM a y).2] at q
            cases q
          rw [updM_ne a1, updM_ne a2]
          show updM (updL M2 la (.lst [])) x _ a = _
          rw [updM_ne a1, updL_out a3]
          show updM (updM M x _) x _ a = _
          rw [updM_ne a1, updM_ne a1]
          exact q
        · rcases List.mem_cons.mp ha with y | y
          · rw [y]
            exact hM
          · rcases List.mem_cons.mp y with y | y
            · rw [y]
              exact hLM.2
            · exact (hlaM a y).2
  · have t1 : TtR K (tNot (tB (tCall (sp_are_stacks K A) [] E0 (tCons (tVar 1) tNil)))) (updM M x (.ins A.c_Stacks [])) [.dat (.ptr x), .dat z, .no, .no] true := t_pure (t_is (t_not (t_B (e_call (s_cons (e_var rfl) s_nil) ⟨z, rfl, hz, rfl⟩))) (by rw [hf]; rfl))
    exact m_fire t1 (m_raise0 ⟨rfl, rfl, ext_new hM⟩) fun G M' q => nomatch q.1

def starD (d : D) : D := match d with
  | .tup [a, .tup bs] => .tup (a :: bs)
  | _ => .non
theorem getD_mapL {α β : Type} (f : α → β) (e : α) (e2 : β) (h : f e = e2) : ∀ (l : List α) (i : Nat), (l.map f).getD i e2 = f (l.getD i e)
  | [], i => by
    rw [List.map_nil, List.getD_nil, List.getD_nil, h]
  | a :: l, 0 => rfl
  | a :: l, i + 1 => by
    show (l.map f).getD i e2 = f (l.getD i e)
    exact getD_mapL f e e2 h l i
theorem rows_take {rs : List Row} (h : RowsOk rs) : RowsOk (rs.take 1) := by
  have h0 := h.l0
  have hs : (rs.take 1).Sublist rs := List.take_sublist 1 rs
  exact ⟨by rw [List.length_take]; omega, by rw [List.length_take]; omega, fun r hr => h.ok r (hs.subset hr), (hs.map _).nodup h.nn, (hs.map _).nodup h.np⟩
theorem o_listVals {K : PySem.W.Frag} {te : TE} {G : List Sl} {es : List (Key × D)} (h : EvD K te G (.dic es)) : EvO K (tListVals te) G (es.map fun q => q.2) := .mk fun {H0 F0 F H σ} E Q q =>
  h E _ fun v F1 H1 E1 f1 g1 n1 r1 => by
    cases r1 with
    | dic ha hk rs =>
      refine ⟨_, _, rfl, E1.ef _ _ ha, fun p hp => ?_⟩
      exact q p _ F1 _ (E1.grow (Ex.refl _) (Ex.new hp) (E1.ef.trans (Ex.new hp)) (Nw.refl _ _)) f1 (g1.trans (Ex.new hp)) n1 (ex_none g1 hp) (ex_none E1.ef hp) upd_same rs
theorem rd_Stacks_copied (K : PySem.W.Frag) (Z : CF K A) {ds : List D} {M : Sto} {P : Res → Sto → Prop} (E : XK) (h : R_Stacks_copied A ds M P) : StM K (t_Stacks_copied K A) M (args nm_Stacks_copied.length ds) (OutP P E) := by
  obtain ⟨x, L, la, s, rfl, hat, rfl⟩ := h
  have l1 := hat.ok.ro.l1
  have hll := hat.ll
  have hpl := hat.ok.pl
  let G : List Sl := [.dat (.ptr x), .no, .no, .no]
  unfold t_Stacks_copied
  show StM K _ M G _
  have vw : VwG M G [.dat (stkD A.c_Stacks s), .no, .no, .no] := .dat hat.vw (.keep (.keep (.keep .nil)))
  have hrows : EvR K (tSl (gSl K) (tListVals ((tFld K (tVar 0) "_told"))) tNoPart (tPart (tC (.int 1)))) M G (.lst ((s.told.take 1).map rowD)) := by
    refine r_shareO (o_view vw (l := (s.told.take 1).map rowD) ?_ ?_)
    · have e : cutD ((toldE s).map fun q => q.2) none (some 1) = (s.told.take 1).map rowD := by
        have e1 : (toldE s).map (fun q => q.2) = s.told.map rowD := by
          unfold toldE
          rw [List.map_map]
          rfl
        rw [e1]
        unfold cutD
        have h0 := hat.ok.ro.l0
        have e2 : HT.sIx (s.told.map rowD).length 0 none = 0 := rfl
        have e3 : HT.sIx (s.told.map rowD).length (s.told.map rowD).length (some 1) = 1 := by
          rw [List.length_map]
          unfold HT.sIx
          simp
          omega
        rw [e2, e3, List.drop_zero, List.map_take]
      rw [← e]
      exact o_sl (e_share (o_listVals (e_told Z (e_var rfl)))) p_none (p_some e_int)
    · have : ∀ l : List Row, flA (l.map rowD) = true := fun l => by
        induction l with
        | nil => rfl
        | cons r l ih =>
          rw [List.map_cons]
          unfold flA
          rw [ih]
          rfl
      exact this _
  refine m_seq (P1 := fun o M' => ∃ x' L' la', o = .nx (G.set 1 (.dat (.ptr x'))) ∧ StkAt A.c_Stacks M' x' L' la' (newS (s.told.take 1)) ∧ Ext M M' ∧ ∀ a ∈ x' :: L' :: la', M a = none) (m_asgM (X := E0) (R := fun r M' => ∃ x' L' la', r = .ok (.ptr x') ∧ StkAt A.c_Stacks M' x' L' la' (newS (s.told.take 1)) ∧ Ext M M' ∧ ∀ a ∈ x' :: L' :: la', M a = none) (e_mmake (sr_cons hrows sr_nil) (fun x' hx => ⟨_, .inl ⟨s.told.take 1, rfl, rows_take hat.ok.ro, rfl⟩, fun d M' k => ?_, fun C M' k => nomatch k.1⟩)) (fun d => G.set 1 (.dat d)) (fun d M' k => gm_name) (fun d M' k => ?_) (fun C M' k => ?_)) (fun G1 M1 k => ?_) (fun o M1 k hn => ?_)
  · obtain ⟨k1, L', la', k2⟩ := k
    exact ⟨x', L', la', rfl, k2⟩
  · obtain ⟨x', L', la', k1, k2⟩ := k
    cases k1
    exact ⟨x', L', la', rfl, k2⟩
  · obtain ⟨x', L', la', k1, k2⟩ := k
    cases k1
  rotate_left
  · obtain ⟨x', L', la', k1, k2⟩ := k
    exact absurd k1 (hn _)
  obtain ⟨x', L1, la1, k1, hat1, hext, hfr⟩ := k
  cases k1
  have hato := hat.ext hext
  have hx'M : M x' = none := hfr x' List.mem_cons_self
  have hxx : x ≠ x' := fun y => by
    rw [← y, hat.ins] at hx'M
    cases hx'M
  let G1 : List Sl := [.dat (.ptr x), .dat (.ptr x'), .no, .no]
  show StM K _ M1 G1 _
  let fs1 : List (Str × D) := [("_told", .dic (toldE s)), ("_piles", .dic (pilesE (newS (s.told.take 1)) (la1.map D.ptr))), ("_lying", .ptr L1)]
  refine m_seq1 (M1 := updM M1 x' (.ins A.c_Stacks fs1)) (G1 := G1) (m_fld (C := A.c_Stacks) (p := x') (X := E0) (R := fun r M' => r = .ok (.dic (toldE s)) ∧ M' = M1) (e_mr (r_fld (r_pure (e_var rfl)) hato.ins Z.cl_Stacks Z.n_Stacks__told rfl) ⟨rfl, rfl⟩) (fun d M' k => ?_) Z.cl_Stacks Z.n_Stacks__told (fun C M' k => nomatch k.1)) ?_
  · obtain ⟨k1, rfl⟩ := k
    cases k1
    exact ⟨r_pure (e_var rfl), _, hat1.ins, by show 3 < 1000; decide, rfl, rfl⟩
  have hext1 := hext
  have hM0 : ∀ a, (updM M1 x' (.ins A.c_Stacks fs1)) a = none → M1 a = none := fun a q => by
    by_cases e : a = x'
    · subst e
      rw [updM_same] at q
      cases q
    · rw [updM_ne e] at q
      exact q
  have hext : Ext M (updM M1 x' (.ins A.c_Stacks fs1)) := fun a n q => by
    have e : a ≠ x' := fun y => by
      rw [y, hx'M] at q
      cases q
    rw [updM_ne e]
    exact hext1 a n q
  have hins : (updM M1 x' (.ins A.c_Stacks fs1)) x' = some (.ins A.c_Stacks fs1) := updM_same
  have hato := hat.ext hext
  generalize updM M1 x' (.ins A.c_Stacks fs1) = M1 at hext hins hato hM0 ⊢
  let ls : List (List D) := s.piles.map fun p => p.map boxD
  have hkl : (keysE s).length = la.length := by
    unfold keysE
    rw [List.length_map, hll]
  refine m_seq (P1 := fun o M' => o = .nx G1 ∧ ∃ la2 : List Addr, la2.length = la.length ∧ la2.Nodup ∧ (∀ a ∈ la2, M1 a = none) ∧ M' = updM (updZ M1 (la2.zip ls)) x' (.ins A.c_Stacks (stkFs s (la2.map D.ptr) (.ptr L1)))) (m_fld (C := A.c_Stacks) (p := x') (X := E0) (R := fun r M' => ∃ la2 : List Addr, la2.length = la.length ∧ la2.Nodup ∧ (∀ a ∈ la2, M1 a = none) ∧ r = .ok (.dic (pilesE s (la2.map D.ptr))) ∧ M' = updZ M1 (la2.zip ls)) (e_dcCopy (la := la) (ls := ls) (fs := stkFs s (la.map D.ptr) (.ptr L)) (es := pilesE s (la.map D.ptr)) (by decide) (by show 2 < 4; decide) (by show 3 < 4; decide) rfl hato.ins Z.cl_Stacks Z.n_Stacks__piles rfl ?_ ?_ ?_ ?_ (fun n hn => ?_) (fun la2 h1 h2 h3 => ⟨la2, ?_, h2, h3, ?_, rfl⟩)) (fun d M' k => ?_) Z.cl_Stacks Z.n_Stacks__piles (fun C M' k => by obtain ⟨la2, _, _, _, k1, _⟩ := k; cases k1)) (fun G2 M2 k => ?_) (fun o M' k hn => absurd k.1 (hn _))
  · unfold pilesE
    rw [List.map_fst_zip (by rw [List.length_map]; omega)]
    unfold keysE
    have : (s.told.map fun r => (Sum.inr r.1 : Key)) = (s.told.map fun r => r.1).map Sum.inr := by
      rw [List.map_map]
      rfl
    rw [this]
    exact nodup_map_inj (f := (Sum.inr : Str → Key)) (fun a b q => Sum.inr.inj q) hat.ok.ro.nn
  · unfold pilesE
    rw [List.length_zip, List.length_map]
    omega
  · unfold pilesE
    rw [List.map_snd_zip (by rw [List.length_map]; omega)]
  · show (s.piles.map _).length = la.length
    rw [List.length_map]
    omega
  · rw [hato.pil n hn]
    show _ = some (Nd.lst ((s.piles.map fun p => p.map boxD).getD n []))
    rw [getD_mapL (fun p : List (Str × Int) => p.map boxD) [] [] rfl s.piles n]
  · rw [h1]
    unfold pilesE
    rw [List.length_zip, List.length_map]
    omega
  · unfold pilesE
    rw [List.map_fst_zip (by rw [List.length_map]; omega)]
  · obtain ⟨la2, h1, h2, h3, k1, rfl⟩ := k
    cases k1
    have hx2 : x' ∉ la2 := fun y => by
      have := h3 x' y
      rw [hins] at this
      cases this
    exact ⟨r_pure (e_var rfl), _, by rw [updZ_out (fun y => hx2 (zip_fst_mem y))]; exact hins, by show 3 < 1000; decide, rfl, la2, h1, h2, h3, rfl⟩
  obtain ⟨k0, la2, h1, h2, h3, rfl⟩ := k
  cases k0
  have hx2 : x' ∉ la2 := fun y => by
    have := h3 x' y
    rw [hins] at this
    cases this
  let M3 : Sto := updM (updZ M1 (la2.zip ls)) x' (.ins A.c_Stacks (stkFs s (la2.map D.ptr) (.ptr L1)))
  have hold : ∀ a n, M a = some n → M3 a = some n := fun a n q => by
    have a1 : a ≠ x' := fun y => by
      rw [y, hx'M] at q
      cases q
    have q1 := hext a n q
    have a2 : a ∉ la2 := fun y => by
      rw [h3 a y] at q1
      cases q1
    show updM (updZ M1 (la2.zip ls)) x' _ a = some n
    rw [updM_ne a1, updZ_out (fun y => a2 (zip_fst_mem y))]
    exact q1
  have hat3 : StkAt A.c_Stacks M3 x L la s := hat.ext hold
  have hx3 : M3 x' = some (.ins A.c_Stacks (stkFs s (la2.map D.ptr) (.ptr L1))) := updM_same
  refine m_seq (P1 := fun o M' => o = .nx G1 ∧ ∃ L2, M3 L2 = none ∧ M' = updM (updM M3 L2 (.dic (lyingE s))) x' (.ins A.c_Stacks (stkFs s (la2.map D.ptr) (.ptr L2)))) (m_fld (C := A.c_Stacks) (p := x') (X := E0) (R := fun r M' => ∃ L2, M3 L2 = none ∧ r = .ok (.ptr L2) ∧ M' = updM M3 L2 (.dic (lyingE s))) (e_mdictD (r_fld (r_pure (e_var rfl)) hat3.ins Z.cl_Stacks Z.n_Stacks__lying rfl) hat3.lyi (fun L2 hL => ⟨L2, hL, rfl, rfl⟩)) (fun d M' k => ?_) Z.cl_Stacks Z.n_Stacks__lying (fun C M' k => by obtain ⟨L2, _, k1, _⟩ := k; cases k1)) (fun G2 M2 k => ?_) (fun o M' k hn => absurd k.1 (hn _))
  · obtain ⟨L2, hL, k1, rfl⟩ := k
    cases k1
    have hxL : x' ≠ L2 := fun q => by
      subst q
      rw [hx3] at hL
      cases hL
    exact ⟨r_pure (e_var rfl), _, by rw [updM_ne hxL]; exact hx3, by show 3 < 1000; decide, rfl, L2, hL, rfl⟩
  obtain ⟨k0, L2, hL, rfl⟩ := k
  cases k0
  have hxL : x' ≠ L2 := fun q => by
    subst q
    rw [hx3] at hL
    cases hL
  have hLla : L2 ∉ la2 := fun y => by
    obtain ⟨r, hr1, hr2⟩ := List.getElem_of_mem y
    have hat2 := updZ_at (M := M1) (la := la2) (ls := ls) h2 (by show _ = (s.piles.map _).length; rw [List.length_map]; omega) hr1
    have hg : la2.getD r 0 = L2 := by
      rw [List.getD_eq_getElem?_getD, List.getElem?_eq_getElem hr1]
      exact hr2
    rw [hg] at hat2
    have q : updM (updZ M1 (la2.zip ls)) x' (.ins A.c_Stacks (stkFs s (la2.map D.ptr) (.ptr L1))) L2 = none := hL
    rw [updM_ne hxL.symm, hat2] at q
    cases q
  have hLM1 : M1 L2 = none := by
    have q : updM (updZ M1 (la2.zip ls)) x' (.ins A.c_Stacks (stkFs s (la2.map D.ptr) (.ptr L1))) L2 = none := hL
    rw [updM_ne hxL.symm, updZ_out (fun y => hLla (zip_fst_mem y))] at q
    exact q
  have back : ∀ a, M1 a = none → M a = none := fun a q => by
    cases y : M a with
    | none => rfl
    | some n =>
      rw [hext a n y] at q
      cases q
  refine m_ret (r_pure (e_var rfl)) ⟨x', L2, la2, rfl, ⟨hat.ok, updM_same, ?_, by omega, fun i hi => ?_, ?_⟩, fun a n q => ?_, fun a ha => ?_⟩
  · rw [updM_ne hxL.symm, updM_same]
  · have hm := getD_memA hi
    have n1 : la2.getD i 0 ≠ x' := fun q => hx2 (q ▸ hm)
    have n2 : la2.getD i 0 ≠ L2 := fun q => hLla (q ▸ hm)
    rw [updM_ne n1, updM_ne n2]
    show updM (updZ M1 (la2.zip ls)) x' _ (la2.getD i 0) = _
    rw [updM_ne n1, updZ_at h2 (by show _ = (s.piles.map _).length; rw [List.length_map]; omega) hi]
    show some (Nd.lst ((s.piles.map fun p => p.map boxD).getD i [])) = _
    rw [getD_mapL (fun p : List (Str × Int) => p.map boxD) [] [] rfl s.piles i]
  · rw [List.nodup_cons, List.nodup_cons]
    refine ⟨fun q => ?_, hLla, h2⟩
    rcases List.mem_cons.mp q with y | y
    · exact hxL y
    · exact hx2 y
  · have a1 : a ≠ x' := fun y => by
      rw [y, hx'M] at q
      cases q
    have q3 := hold a n q
    have a2 : a ≠ L2 := fun y => by
      rw [y, hL] at q3
      cases q3
    rw [updM_ne a1, updM_ne a2]
    exact q3
  · rcases List.mem_cons.mp ha with y | y
    · rw [y]
      exact hx'M
    · rcases List.mem_cons.mp y with y | y
      · rw [y]
        exact back _ hLM1
      · exact back _ (h3 a y)

def RetP (P : Res → Sto → Prop) (X : XK) : Out → Sto → Prop := fun o M => (∃ d, o = .rt d ∧ P (.ok d) M) ∨ ∃ C, o = .ex C X ∧ P (.exc C) M
theorem m_retP {K : PySem.W.Frag} {t : TS} {M : Sto} {G : List Sl} {P : Res → Sto → Prop} {X : XK} (h : StM K t M G (RetP P X)) : StM K t M G (OutP P X) := m_of h fun o M' k => by
  rcases k with ⟨d, rfl, q⟩ | ⟨C, rfl, q⟩
  · exact q
  · exact ⟨rfl, q⟩
theorem m_retR {K : PySem.W.Frag} {te : TE} {M : Sto} {G : List Sl} {P : Res → Sto → Prop} {X : XK} (h : EvM K te X M G P) : StM K (tRet te) M G (RetP P X) := m_retM h (fun d M' k => .inl ⟨d, rfl, k⟩) (fun C M' k => .inr ⟨C, rfl, k⟩)

theorem rd_l_weight (K : PySem.W.Frag) (Z : CF K A) {ds : List D} {d : D} (h : R_l_weight ds d) : StD K (t_l_weight K A) (args nm_l_weight.length ds) (.rt d) := by
  obtain ⟨c, rfl, rfl⟩ := h
  unfold t_l_weight
  have q4 : ∀ {G : List Sl}, G[0]? = some (.dat (.int c)) → EvD K (tOp (gFdv) (tVar 0) (tC (.int 4))) G (.int (c / 4)) := fun h => e_op (e_var h) e_int (d_fdv (by decide) (by decide))
  exact st_ret (e_op (e_is (b := .lst ((wgL c).map D.int)) (e_share (o_lst (ds := [.int (1 + c / 4 % 9), .int (1 + c / 4 % 9), .int 1, .int (500000000000 + c / 4 % 3 - 1)]) (s_cons (e_op e_int (e_op (q4 rfl) e_int (d_mod (by decide))) d_addI) (s_cons (e_op e_int (e_op (q4 rfl) e_int (d_mod (by decide))) d_addI) (s_cons e_int (s_cons (e_op (e_op (e_op e_int (e_op e_int e_int (d_pow ⟨by decide, by decide, by decide⟩)) (d_mulI (Or.inl (by decide)))) (e_op (q4 rfl) e_int (d_mod (by decide))) d_addI) e_int d_subI) s_nil)))) (by show 4 ≤ 100000; decide))) rfl) (e_op (e_var rfl) e_int (d_mod (by decide))) (d_ixI (Int.emod_nonneg _ (by decide)) (Int.emod_lt_of_pos _ (by decide))))
theorem k_told : valE [((Sum.inr "told" : Key), D.non), (.inr "piles", .non)] (.inr "told") = some .non := valE_pos rfl
theorem tp_ne : ¬ ((Sum.inr "told" : Key) = .inr "piles") := by decide +kernel
theorem own_told {rs : List Row} {vs : List D} : valE [((.inr "told" : Key), .lst (rs.map rowD)), (.inr "piles", .dic ((keyR rs).zip vs))] (.inr "told") = some (.lst (rs.map rowD)) := valE_pos rfl
theorem own_piles {rs : List Row} {vs : List D} : valE [((.inr "told" : Key), .lst (rs.map rowD)), (.inr "piles", .dic ((keyR rs).zip vs))] (.inr "piles") = some (.dic ((keyR rs).zip vs)) := (valE_neg tp_ne).trans (valE_pos rfl)
theorem e_ownTold {K : PySem.W.Frag} {G : List Sl} {i : Nat} {rs : List Row} {vs : List D} (h : G[i]? = some (.dat (ownD rs vs))) : EvD K (tDGet (tVar i) (tC (.str ("told" : Str)))) G (.lst (rs.map rowD)) := e_dget (k := .inr "told") (e_var h) e_str own_told
theorem e_ownPiles {K : PySem.W.Frag} {G : List Sl} {i : Nat} {rs : List Row} {vs : List D} (h : G[i]? = some (.dat (ownD rs vs))) : EvD K (tDGet (tVar i) (tC (.str ("piles" : Str)))) G (.dic ((keyR rs).zip vs)) := e_dget (k := .inr "piles") (e_var h) e_str own_piles
theorem keyR_nodup {rs : List Row} (h : RowsOk rs) : (keyR rs).Nodup := by
  unfold keyR
  have : (rs.map fun r => (Sum.inr r.1 : Key)) = (rs.map fun r => r.1).map Sum.inr := by
    rw [List.map_map]
    rfl
  rw [this]
  exact nodup_map_inj (f := (Sum.inr : Str → Key)) (fun a b q => Sum.inr.inj q) h.nn
theorem rd_l_new (K : PySem.W.Frag) (Z : CF K A) {ds : List D} {M : Sto} {P : Res → Sto → Prop} (E : XK) (h : R_l_new ds M P) : StM K (t_l_new K A) M (args nm_l_new.length ds) (OutP P E) := by
  obtain ⟨rs, rfl, ok, rfl⟩ := h
  have l1 := ok.l1
  unfold t_l_new
  refine m_retP (m_retR (e_mdisp2 (R1 := fun p r M' => ∃ la : List Addr, la.length = rs.length ∧ la.Nodup ∧ (∀ a ∈ la, updM M p (.dic []) a = none) ∧ r = .ok (.dic ((keyR rs).zip (la.map D.ptr))) ∧ M' = updL (updM M p (.dic [])) la (.lst [])) (by decide +kernel) (e_var rfl) (fun p hp => ?_) (fun p d2 M' hp k => ?_) (fun p C M' k => by obtain ⟨la, _, _, _, k1, _⟩ := k; cases k1)))
  · refine e_mcb (R1 := fun r M' => ∃ la : List Addr, la.length = rs.length ∧ la.Nodup ∧ (∀ a ∈ la, updM M p (.dic []) a = none) ∧ r = .ok (.lst (((keyR rs).zip (la.map D.ptr)).map itemD)) ∧ M' = updL (updM M p (.dic [])) la (.lst [])) (e_lcNewP keyN (it_list (e_var rfl)) (by rw [List.length_map]; omega) (fun dx hd => ?_) (fun la h1 h2 h3 => ⟨la, by rw [h1, List.length_map], h2, h3, ?_, rfl⟩)) (fun d M' k => ?_) (fun C M' k => by obtain ⟨la, _, _, _, k1, _⟩ := k; cases k1)
    · obtain ⟨r, _, rfl⟩ := List.mem_map.mp hd
      exact e_op (e_var rfl) e_int (d_ixT (by rfl))
    · rw [keysN, List.map_map]
      rfl
    · obtain ⟨la, h1, h2, h3, k1, rfl⟩ := k
      cases k1
      refine ⟨_, n_dictP ?_, la, h1, h2, h3, rfl, rfl⟩
      rw [List.map_fst_zip (by rw [List.length_map, h1]; unfold keyR; rw [List.length_map]; exact Nat.le_refl _)]
      exact keyR_nodup ok
  · obtain ⟨la, h1, h2, h3, k1, rfl⟩ := k
    cases k1
    have hpla : p ∉ la := fun y => by
      have := h3 p y
      rw [updM_same] at this
      cases this
    have hfr : ∀ a ∈ la, a ≠ p ∧ M a = none := fun a ha => by
      have hne : a ≠ p := fun y => hpla (y ▸ ha)
      have := h3 a ha
      rw [updM_ne hne] at this
      exact ⟨hne, this⟩
    refine ⟨by rw [updL_out hpla]; exact updM_same, la, rfl, ⟨h1, by rw [List.length_map], h2, fun i hi => ?_⟩, fun a n q => ?_, fun a ha => (hfr a ha).2⟩
    · have hm := getD_memA hi
      rw [lessM_ne (hfr _ hm).1, updL_in hm]
      rw [List.getD_eq_getElem?_getD, List.getElem?_map]
      cases rs[i]? <;> rfl
    · have a1 : a ≠ p := fun y => by
        rw [y, hp] at q
        cases q
      have a2 : a ∉ la := fun y => by
        rw [(hfr a y).2] at q
        cases q
      rw [lessM_ne a1, updL_out a2, updM_ne a1]
      exact q
theorem rd_l_kept (K : PySem.W.Frag) (Z : CF K A) {ds : List D} {M : Sto} {P : Res → Sto → Prop} (E : XK) (h : R_l_kept ds M P) : StM K (t_l_kept K A) M (args nm_l_kept.length ds) (OutP P E) := by
  obtain ⟨rs, pa, ps, rfl, ok, hat, rfl⟩ := h
  have l1 := ok.l1
  have e1 := hat.ll
  have e2 := hat.lp
  have hk : (keyR rs).length = rs.length := by unfold keyR; rw [List.length_map]
  unfold t_l_kept
  let ls : List (List D) := ps.map fun p => p.map boxD
  refine m_retP (m_retR (e_mdisp2 (R1 := fun p r M' => ∃ la : List Addr, la.length = rs.length ∧ la.Nodup ∧ (∀ a ∈ la, updM M p (.dic []) a = none) ∧ r = .ok (.dic ((keyR rs).zip (la.map D.ptr))) ∧ M' = updZ (updM M p (.dic [])) (la.zip ls)) (by decide +kernel) (e_ownTold rfl) (fun p hp => ?_) (fun p d2 M' hp k => ?_) (fun p C M' k => by obtain ⟨la, _, _, _, k1, _⟩ := k; cases k1)))
  · refine e_mcb (R1 := fun r M' => ∃ la : List Addr, la.length = rs.length ∧ la.Nodup ∧ (∀ a ∈ la, updM M p (.dic []) a = none) ∧ r = .ok (.lst (((keyR rs).zip (la.map D.ptr)).map itemD)) ∧ M' = updZ (updM M p (.dic [])) (la.zip ls)) (e_lcCopyP (es := (keyR rs).zip (pa.map D.ptr)) (la := pa) (ls := ls) (by decide) (by show 1 < 3; decide) (by show 2 < 3; decide) rfl own_piles ?_ ?_ ?_ (fun n hn => ?_) (fun la h1 h2 h3 => ⟨la, ?_, h2, h3, ?_, rfl⟩)) (fun d M' k => ?_) (fun C M' k => by obtain ⟨la, _, _, _, k1, _⟩ := k; cases k1)
    · rw [List.length_zip, List.length_map]
      omega
    · rw [List.map_snd_zip (by rw [List.length_map]; omega)]
    · show (ps.map _).length = pa.length
      rw [List.length_map]
      omega
    · have hne : pa.getD n 0 ≠ p := fun y => by
        have := hat.pil n hn
        rw [y, hp] at this
        cases this
      rw [updM_ne hne, hat.pil n hn]
      show _ = some (Nd.lst ((ps.map fun p => p.map boxD).getD n []))
      rw [getD_mapL (fun p : List (Str × Int) => p.map boxD) [] [] rfl ps n]
    · rw [h1, List.length_zip, List.length_map]
      omega
    · rw [List.map_fst_zip (by rw [List.length_map]; omega)]
    · obtain ⟨la, h1, h2, h3, k1, rfl⟩ := k
      cases k1
      refine ⟨_, n_dictP ?_, la, h1, h2, h3, rfl, rfl⟩
      rw [List.map_fst_zip (by rw [List.length_map]; omega)]
      exact keyR_nodup ok
  · obtain ⟨la, h1, h2, h3, k1, rfl⟩ := k
    cases k1
    have hpla : p ∉ la := fun y => by
      have := h3 p y
      rw [updM_same] at this
      cases this
    have hfr : ∀ a ∈ la, a ≠ p ∧ M a = none := fun a ha => by
      have hne : a ≠ p := fun y => hpla (y ▸ ha)
      have := h3 a ha
      rw [updM_ne hne] at this
      exact ⟨hne, this⟩
    have hlz : la.length = ls.length := by show _ = (ps.map _).length; rw [List.length_map]; omega
    refine ⟨by rw [updZ_out (fun y => hpla (zip_fst_mem y))]; exact updM_same, la, rfl, ⟨h1, e2, h2, fun i hi => ?_⟩, fun a n q => ?_, fun a ha => (hfr a ha).2⟩
    · have hm := getD_memA hi
      rw [lessM_ne (hfr _ hm).1, updZ_at h2 hlz hi]
      show some (Nd.lst ((ps.map fun p => p.map boxD).getD i [])) = _
      rw [getD_mapL (fun p : List (Str × Int) => p.map boxD) [] [] rfl ps i]
    · have a1 : a ≠ p := fun y => by
        rw [y, hp] at q
        cases q
      have a2 : a ∉ la := fun y => by
        rw [(hfr a y).2] at q
        cases q
      rw [lessM_ne a1, updZ_out (fun y => a2 (zip_fst_mem y)), updM_ne a1]
      exact q

theorem d_inT {K : PySem.W.Frag} {b : Str} {cs : List Str} : Op2 K (gIn K) (.str b) (.lst (cs.map D.str)) (.bl (cs.any fun c => decide (c = b))) := op2_r (op2_v fun {F H x y} e r1 r2 => by
  refine ⟨.bl (cs.any fun c => decide (c = b)), .bl _, fun Q q => ?_⟩
  cases r2 with
  | lst ha rs =>
    have hx := rp_str r1
    subst hx
    refine ⟨_, cs.map V.str, rfl, .inl (sq_of (by rw [e _ _ ha, rs.strs])), rfl, ?_, ?_⟩
    · rw [List.all_map]
      exact List.all_eq_true.mpr fun c _ => rfl
    · have : inV (.str b) (cs.map V.str) = cs.any fun c => decide (c = b) := by
        unfold inV
        rw [List.any_map]
        refine congrArg (fun f => cs.any f) (funext fun c => ?_)
        show (c == b) = decide (c = b)
        by_cases h : c = b
        · rw [decide_eq_true h, h]
          exact beq_self_eq_true b
        · rw [decide_eq_false h]
          exact beq_eq_false_iff_ne.mpr h
      show Q (.bl (inV (.str b) (cs.map V.str))) H
      rw [this]
      exact q)
theorem rows_first {n : Str} : ∀ {rs : List Row} {t : Int × Int × Int}, find rs n = some t → ∃ l, (rs.map rowD).filter (fun d => match d with | .tup (.str c :: _) => decide (c = n) | _ => false) = rowD (n, t) :: l
  | r :: rs, t, h => by
    by_cases e : r.1 = n
    · rw [find_pos e] at h
      cases h
      have e2 : (n, r.2) = r := by rw [← e]
      rw [e2, List.map_cons, List.filter_cons_of_pos (by show decide (r.1 = n) = true; exact decide_eq_true e)]
      exact ⟨_, rfl⟩
    · rw [find_neg e] at h
      rw [List.map_cons, List.filter_cons_of_neg (by show ¬ decide (r.1 = n) = true; rw [decide_eq_false e]; decide)]
      exact rows_first h
theorem rd_l_of (K : PySem.W.Frag) (Z : CF K A) {ds : List D} {d : D} (h : R_l_of ds d) : StD K (t_l_of K A) (args nm_l_of.length ds) (.rt d) := by
  obtain ⟨rs, vs, n, t, rfl, hl, ht, rfl⟩ := h
  unfold t_l_of
  obtain ⟨l, e⟩ := rows_first ht
  refine st_ret (e_op (e_share (o_lcF (fun d => match d with | .tup (.str c :: _) => decide (c = n) | _ => false) (fun d => d) (it_list (e_ownTold rfl)) (by rw [List.length_map]; omega) (fun d hd => ?_) (fun d hd _ => ?_))) e_int (d_ixL ?_))
  · obtain ⟨r, _, rfl⟩ := List.mem_map.mp hd
    exact t_is (t_test (e_op (e_op (e_var rfl) e_int (d_ixT (by rfl))) (e_var rfl) d_eqS)) rfl
  · exact e_var rfl
  · rw [List.map_id', e]
    exact atI_getD D.non (by decide) (by rw [List.length_cons]; omega)
theorem rd_l_where (K : PySem.W.Frag) (Z : CF K A) {ds : List D} {d : D} (h : R_l_where ds d) : StD K (t_l_where K A) (args nm_l_where.length ds) (.rt d) := by
  obtain ⟨rs, ps, b, rfl, hlen, rfl⟩ := h
  unfold t_l_where
  have hbox : ∀ l : List (Str × Int), plnA (l.map boxD) = true := fun l => plnA_of fun d hd => by
    obtain ⟨p, _, rfl⟩ := List.mem_map.mp hd
    rfl
  have hent : ∀ p ∈ (keyR rs).zip (ps.map pileD), ∃ q ∈ ps, p.2 = pileD q ∧ ∃ r : Row, p.1 = .inr r.1 := fun p hp => by
    have h1 := (List.of_mem_zip hp).1
    have h2 := (List.of_mem_zip hp).2
    obtain ⟨q, hq, e⟩ := List.mem_map.mp h2
    obtain ⟨r, _, e2⟩ := List.mem_map.mp h1
    exact ⟨q, hq, e.symm, r, e2.symm⟩
  have hfor := st_forItems (K := K) (G := args nm_l_where.length [ownD rs (ps.map pileD), .str b]) (G' := [.no, .dat (.str b), .no, .no, .no]) (i := 0) (j := 2) (m := 3) (k0 := "piles") (tu := (tIfS (tTest (tOp (gIn K) (tVar 1) (tLc (iList K (tVar 3)) (gName 4) tYes (tOp (gIx K) (tVar 4) (tC (.int 0))) [4]))) (tRet (tVar 2)) tNext)) (whP b) (by decide) rfl own_piles (fun p hp => by
      obtain ⟨q, _, e, _⟩ := hent p hp
      exact ⟨q.map boxD, e, hbox q⟩) (.drop (.keep rfl (.drop (.drop (.drop .nil))))) rfl rfl (fun p hp => ?_) (fun p hp r hr => ?_)
  · cases q : firstP (whP b) ((keyR rs).zip (ps.map pileD)) with
    | some r =>
      rw [q] at hfor
      have e : whD rs ps b = r := by
        unfold whD
        rw [q]
        rfl
      rw [e]
      exact st_stop hfor fun _ z => nomatch z
    | none =>
      rw [q] at hfor
      have e : whD rs ps b = .non := by
        unfold whD
        rw [q]
        rfl
      rw [e]
      exact st_seq hfor (st_ret e_none)
  · obtain ⟨q, hq, e, r, e2⟩ := hent p hp
    obtain ⟨k, v⟩ := p
    have e' : v = .lst (q.map boxD) := e
    have e2' : k = .inr r.1 := e2
    subst e' e2'
    have hl := hlen q hq
    have elist : EvD K (tLc (iList K (tVar 3)) (gName 4) tYes (tOp (gIx K) (tVar 4) (tC (.int 0))) [4]) [.no, .dat (.str b), .dat (.str r.1), .dat (.lst (q.map boxD)), .no] (.lst ((q.map fun p => p.1).map D.str)) := by
      refine e_is (e_share (o_lcM (fun d => match d with | .tup (a :: _) => a | _ => .non) (it_list (e_var rfl)) (by rw [List.length_map]; omega) (fun d hd => ?_))) ?_
      · obtain ⟨p, _, rfl⟩ := List.mem_map.mp hd
        rw [wipe1]
        exact e_op (e_var rfl) e_int (d_ixT (by rfl))
      · rw [List.map_map, List.map_map]
        rfl
    have hany : ((q.map boxD).any fun e => match e with | .tup (.str c :: _) => decide (c = b) | _ => false) = (q.map fun p => p.1).any fun c => decide (c = b) := by
      rw [List.any_map, List.any_map]
      rfl
    show StD K _ [.no, .dat (.str b), .dat (.str r.1), .dat (.lst (q.map boxD)), .no] (match (if ((q.map boxD).any fun e => match e with | .tup (.str c :: _) => decide (c = b) | _ => false) = true then some (D.str r.1) else none) with | some r => Out.rt r | none => .nx _)
    rw [hany]
    have tt := t_test (e_op (e_var (i := 1) rfl) elist (d_inT (K := K)))
    by_cases hb : ((q.map fun p => p.1).any fun c => decide (c = b)) = true
    · rw [if_pos hb]
      exact st_if (t_is tt hb) (fun _ => st_ret (e_var rfl)) (fun z => nomatch z)
    · rw [if_neg hb]
      exact st_if (t_is tt (Bool.eq_false_iff.mpr hb)) (fun z => nomatch z) (fun _ => st_next)
  · obtain ⟨q, hq, e, r', e2⟩ := hent p hp
    obtain ⟨k, v⟩ := p
    have e' : v = .lst (q.map boxD) := e
    have e2' : k = .inr r'.1 := e2
    subst e' e2'
    have hr' : (if ((q.map boxD).any fun e => match e with | .tup (.str c :: _) => decide (c = b) | _ => false) = true then some (D.str r'.1) else none) = some r := hr
    split at hr'
    · cases hr'
      rfl
    · cases hr'
theorem rd_l_may (K : PySem.W.Frag) (Z : CF K A) {ds : List D} {d : D} (h : R_l_may ds d) : StD K (t_l_may K A) (args nm_l_may.length ds) (.rt d) := by
  obtain ⟨rs, ps, b, w, n, t, rfl, hl, hps, hlen, ht, rfl⟩ := h
  obtain ⟨hi, _⟩ := idx_lt ht
  have hpile : valE ((keyR rs).zip (ps.map pileD)) (.inr n) = some (pileD (pileOf rs ps n)) := by
    unfold keyR
    rw [valE_zip (ps := ps.map pileD) ht (by rw [List.length_map, hps]), List.getElem?_map, List.getElem?_eq_getElem (by omega)]
    unfold pileOf
    rw [List.getD_eq_getElem?_getD, List.getElem?_eq_getElem (by omega)]
    rfl
  have hpl : (pileOf rs ps n).length ≤ 1000 := by
    unfold pileOf
    rw [List.getD_eq_getElem?_getD, List.getElem?_eq_getElem (by omega)]
    exact hlen _ (List.getElem_mem _)
  unfold t_l_may mayB
  refine st_seq (st_asg (d := rowD (n, t)) (e_call (s_cons (e_var rfl) (s_cons (e_var rfl) s_nil)) ⟨rs, ps.map pileD, n, t, rfl, hl, ht, rfl⟩) (g_tup (gs_cons g_name (gs_cons g_name (gs_cons g_name (gs_cons g_name gs_nil)))) rfl)) ?_
  refine st_seq (st_asg (d := pileD (pileOf rs ps n)) (e_dget (k := .inr n) (e_ownPiles rfl) (e_var rfl) hpile) g_name) ?_
  generalize pileOf rs ps n = q at hpl
  have tt : EvTt K (tOr (tTest (tOp (gIn2) (tCall (sp_l_where K A) [] E0 (tCons (tVar 0) (tCons (tVar 1) tNil))) (tC .non))) (tTest (tOp (gGe) (tCB (Cy.rLen K) (tCons (tVar 8) tNil)) (tVar 6)))) [.dat (ownD rs (ps.map pileD)), .dat (.str b), .dat (.int w), .dat (.str n), .dat (.str n), .dat (.int t.1), .dat (.int t.2.1), .dat (.int t.2.2), .dat (pileD q), .no] (!(isNon (whD rs ps b) && decide ((q.length : Int) < t.2.1))) := by
    refine t_is (t_or (t_test (e_op (e_call (s_cons (e_var rfl) (s_cons (e_var rfl) s_nil)) ⟨rs, ps, b, rfl, hlen, rfl⟩) e_none d_niN)) (fun _ => t_test (e_op (e_cb (s_cons (e_var rfl) s_nil) n_lenL) (e_var rfl) d_geI))) ?_
    rw [Bool.not_and]
    congr 1
    rw [List.length_map]
    have : decide (t.2.1 ≤ (q.length : Int)) = !decide ((q.length : Int) < t.2.1) := by
      by_cases z : (q.length : Int) < t.2.1
      · rw [decide_eq_true z, decide_eq_false (by omega)]
        rfl
      · rw [decide_eq_false z, decide_eq_true (by omega)]
        rfl
    exact this
  cases hx : (isNon (whD rs ps b) && decide ((q.length : Int) < t.2.1)) with
  | false =>
    rw [hx] at tt
    exact st_guard (x := true) tt (fun _ => st_ret e_bl) (fun z => nomatch z)
  | true =>
    rw [hx] at tt
    refine st_pass tt (st_ret ?_)
    rw [Bool.true_and]
    refine e_op (e_op (e_cb (s_cons (e_is (e_share (o_lcM (fun d => match d with | .tup [_, a] => a | _ => .non) (it_list (e_var rfl)) (by rw [List.length_map]; omega) (fun d hd => ?_))) (b := .lst ((q.map fun b => b.2).map D.int)) ?_) s_nil) n_sum) (e_var rfl) d_addI) (e_var rfl) d_leI
    · obtain ⟨p, _, rfl⟩ := List.mem_map.mp hd
      rw [wipe1]
      exact e_op (e_var rfl) e_int (d_ixT (by rfl))
    · rw [List.map_map, List.map_map]
      rfl

theorem rd_l_mixed (K : PySem.W.Frag) (Z : CF K A) {ds : List D} {d : D} (h : R_l_mixed ds d) : StD K (t_l_mixed K A) (args nm_l_mixed.length ds) (.rt d) := by
  obtain ⟨c, k, rfl, hk, rfl⟩ := h
  have h0 : 0 ≤ mn c k := Int.emod_nonneg _ (by decide)
  have h1 : mn c k < 2147483647 := Int.emod_lt_of_pos _ (by decide)
  unfold t_l_mixed
  refine st_seq (st_asg (d := .int (mn c k)) (e_op (e_op (e_op (e_op (e_op (e_op (e_var rfl) e_int (d_mod (by decide))) (e_op (e_op e_int (e_var rfl) (d_mulI (Or.inl (by decide)))) (e_var rfl) (d_mulI (Or.inr (by omega)))) d_addI) (e_op e_int (e_var rfl) (d_mulI (Or.inl (by decide)))) d_addI) e_int d_addI) e_int (d_mulI (Or.inr (by decide)))) e_int (d_mod (by decide))) g_name) (st_ret ?_)
  unfold mx
  exact e_op (e_op (e_op (e_var rfl) (e_op (e_op (e_var rfl) e_int (d_mod (by decide))) e_int d_addI) (d_mulI (Or.inl (by omega)))) e_int (d_mod (by decide))) e_int (d_fdv (by decide) (by decide))
theorem rg_get {lo : Int} {n i : Nat} {d : D} (h : (rngD lo n)[i]? = some d) : i < n ∧ d = .int (lo + (i : Int)) := by
  unfold rngD at h
  rw [List.getElem?_map] at h
  cases q : (List.range n)[i]? with
  | none =>
    rw [q] at h
    cases h
  | some j =>
    rw [q] at h
    obtain ⟨h2, h3⟩ := List.getElem?_eq_some_iff.mp q
    rw [List.getElem_range] at h3
    subst h3
    cases h
    rw [List.length_range] at h2
    exact ⟨h2, rfl⟩
theorem rg_len {lo : Int} {n : Nat} : (rngD lo n).length = n := by
  unfold rngD
  rw [List.length_map, List.length_range]
theorem rd_l_number (K : PySem.W.Frag) (Z : CF K A) {ds : List D} {d : D} (h : R_l_number ds d) : StD K (t_l_number K A) (args nm_l_number.length ds) (.rt d) := by
  obtain ⟨ns, k, rfl, hk, hl, rfl⟩ := h
  unfold t_l_number nb
  refine st_seq (st_asg e_int g_name) ?_
  have t1 : EvTt K (tTest (tOp (gGt) (tCB (rLen K) (tCons (tVar 0) tNil)) (tC (.int 0)))) ((args nm_l_number.length [.scr ns, .int k]).set 2 (.dat (.int 0))) (decide ((0 : Int) < (ns.length : Int))) := t_test (e_op (e_cb (s_cons (e_var rfl) s_nil) n_lenR) e_int d_gtI)
  by_cases hn : ns = []
  · rw [if_pos hn]
    subst hn
    exact st_seq (st_if (x := false) t1 (fun q => nomatch q) (fun _ => st_next)) (st_ret (e_call (s_cons (e_var rfl) (s_cons (e_var rfl) s_nil)) ⟨0, k, rfl, hk, rfl⟩))
  · rw [if_neg hn]
    have hp : 0 < ns.length := List.length_pos_iff.mpr hn
    have hm0 : 0 ≤ k % (ns.length : Int) := Int.emod_nonneg _ (by omega)
    have hm1 : k % (ns.length : Int) < (ns.length : Int) := Int.emod_lt_of_pos _ (by omega)
    have t1' := t_is t1 (decide_eq_true (by omega : (0 : Int) < (ns.length : Int)))
    have ec : EvD K (tOp (gIx K) (tVar 0) (tOp (gMod) (tVar 1) (tCB (rLen K) (tCons (tVar 0) tNil)))) ((args nm_l_number.length [.scr ns, .int k]).set 2 (.dat (.int 0))) (.int (c0 ns k)) := e_op (e_var rfl) (e_op (e_var rfl) (e_cb (s_cons (e_var rfl) s_nil) n_lenR) (d_mod (by omega))) (d_ixRn hm0 hm1)
    have t2 : EvTt K (tTest (tOp (gEq K) (tOp (gMod) (tOp (gIx K) (tVar 0) (tC (.int 0))) (tC (.int 2))) (tC (.int 1)))) (((args nm_l_number.length [.scr ns, .int k]).set 2 (.dat (.int 0))).set 2 (.dat (.int (c0 ns k)))) (decide (ns.getD 0 0 % 2 = 1)) := t_test (e_op (e_op (e_op (e_var rfl) e_int (d_ixRn (by decide) (by omega))) e_int (d_mod (by decide))) e_int d_eqI)
    by_cases ho : ns.getD 0 0 % 2 = 1
    · rw [if_pos ho]
      have hq0 : 0 ≤ k / (ns.length : Int) := Int.ediv_nonneg hk.1 (by omega)
      refine st_stop (st_if t1' (fun _ => ?_) (fun q => nomatch q)) (fun _ q => nomatch q)
      refine st_seq (st_asg ec g_name) (st_if (t_is t2 (decide_eq_true ho)) (fun _ => ?_) (fun q => nomatch q))
      let C : Nat → List Sl := fun i => [.dat (.scr ns), .dat (.int k), .dat (.int (dv (c0 ns k) i)), .no]
      refine st_seq (G1 := C (tm ns k)) (st_for (it_rng1 (n := min 60 (k / (ns.length : Int))) (s_cons (e_cb (s_cons e_int (s_cons (e_op (e_var rfl) (e_cb (s_cons (e_var rfl) s_nil) n_lenR) (d_fdv (by omega) (by omega))) s_nil)) n_min2) s_nil) (by omega)) C rfl (fun i => (C i).set 3 (.dat (.int (i : Int)))) (fun i d hd => ?_)
        (fun i => .nx ((C (i + 1)).set 3 (.dat (.int (i : Int))))) (fun i hi _ => ?_) (fun i hi => .inl ⟨_, .inl rfl, Wk.keep (Wk.keep (Wk.keep (Wk.drop Wk.nil)))⟩) (fun _ => by rw [rg_len]; rfl)) (st_ret (e_op (e_var rfl) (e_op e_int e_int d_pow9) (d_mod (by decide))))
      · obtain ⟨_, rfl⟩ := rg_get hd
        rw [Int.zero_add]
        exact g_name
      · exact st_asg (e_op (e_var rfl) (e_op e_int e_int d_pow9) (d_fdv (by decide) (by decide))) g_name
    · rw [if_neg ho]
      exact st_seq (st_if t1' (fun _ => st_seq (st_asg ec g_name) (st_if (t_is t2 (decide_eq_false ho)) (fun q => nomatch q) (fun _ => st_next))) (fun q => nomatch q)) (st_ret (e_call (s_cons (e_var rfl) (s_cons (e_var rfl) s_nil)) ⟨c0 ns k, k, rfl, hk, rfl⟩))
theorem e_nb {K : PySem.W.Frag} {G : List Sl} {ns : List Int} {i : Nat} {k : Int} {te : TE} {E : XK} (h : G[i]? = some (.dat (.scr ns))) (he : EvD K te G (.int k)) (hk : 0 ≤ k ∧ k ≤ 100000) (hl : ns.length ≤ 63) : EvD K (tCall (sp_l_number K A) [] E (tCons (tVar i) (tCons te tNil))) G (.int (nb ns k)) := e_call (s_cons (e_var h) (s_cons he s_nil)) ⟨ns, k, rfl, hk, hl, rfl⟩

theorem find_some_of {α : Type} {r : Str × α} : ∀ {l : List (Str × α)}, r ∈ l → ∃ t, find l r.1 = some t
  | p :: l, h => by
    by_cases e : p.1 = r.1
    · exact ⟨p.2, find_pos e⟩
    · rw [find_neg e]
      rcases List.mem_cons.mp h with z | z
      · exact absurd (by rw [z]) e
      · exact find_some_of z

theorem e_let {K : PySem.W.Frag} {G : List Sl} {i : Nat} {te : TE} {k : Int} (h : G[i]? = some (.dat (.str lets))) (he : EvD K te G (.int k)) : EvD K (tOp (gIx K) (tVar i) (tOp (gMod) te (tC (.int 26)))) G (.str ⟨#[ltr k]⟩) := by
  have h0 : 0 ≤ k % 26 := Int.emod_nonneg _ (by decide)
  have h1 : k % 26 < 26 := Int.emod_lt_of_pos _ (by decide)
  refine e_op (e_var h) (e_op he e_int (d_mod (by decide))) (d_ixSn (by decide +kernel) h0 ?_)
  rw [let_len]
  exact h1
theorem bsL_sum (n : Int) : ((bsL n).map (·.length)).sum + (bsL n).length * ("" : Str).length ≤ 16777216 := by
  have h3 : ("" : Str).length = 0 := by decide +kernel
  rw [h3]
  unfold bsL
  rw [List.map_map]
  show ((List.range 8).map fun _ => 1).sum + _ ≤ _
  rw [Nat.mul_zero]
  decide
theorem rd_l_names (K : PySem.W.Frag) (Z : CF K A) {ds : List D} {d : D} (h : R_l_names ds d) : StD K (t_l_names K A) (args nm_l_names.length ds) (.rt d) := by
  obtain ⟨n, k, rfl, hk, rfl⟩ := h
  have hlg := lng_in n
  have hat := at_in n
  have hbl : (bsS n).length = 8 := by
    rw [len_tl]
    exact bs_len n
  unfold t_l_names
  refine st_seq (st_asg e_str g_name) (st_seq (st_asg (d := .str (bsS n)) ?_ g_name) ?_)
  · refine e_join (ys := bsL n) e_str (e_is (e_share (o_lcM (fun d => match d with | .int j => .str ⟨#[ltr (n + 5 * j + j * j)]⟩ | _ => .non) (it_rng1 (n := 8) (s_cons e_int s_nil) (by decide)) (by rw [rg_len]; decide) (fun d hd => ?_))) ?_) (bsL_sum n)
    · unfold rngD at hd
      obtain ⟨j, hj, rfl⟩ := List.mem_map.mp hd
      have hj' := List.mem_range.mp hj
      have hj8 : j < 8 := hj'
      rw [wipe1]
      refine e_let rfl (e_op (e_op (e_var rfl) (e_op e_int (e_var rfl) (d_mulI (Or.inl (by decide)))) d_addI) (e_op (e_var rfl) (e_var rfl) (d_mulI (Or.inl ?_))) d_addI)
      omega
    · unfold rngD bsL
      rw [List.map_map, List.map_map]
      refine congrArg D.lst (List.map_congr_left fun j _ => ?_)
      show D.str _ = D.str (bs1 n j)
      unfold bs1
      rw [Int.zero_add]
  refine st_seq (st_asg (d := .int (lngV n)) (e_op (e_op (e_var rfl) e_int (d_fdv (by decide) (by decide))) e_int (d_mod (by decide))) g_name) ?_
  refine st_seq (st_asg (d := .int (atV n)) (e_op (e_op (e_var rfl) e_int (d_fdv (by decide) (by decide))) (e_op (e_var rfl) e_int d_addI) (d_mod (by omega))) g_name) ?_
  refine st_seq (st_asg (d := .lst ((List.range k.toNat).map fun j => .str ⟨#[sgV n j]⟩)) ?_ g_name) (st_seq (st_asg (d := .lst (((List.range k.toNat).map fun j => nm0 n j).map D.str)) ?_ g_name) (st_ret ?_))
  · refine e_is (e_share (o_lcM (fun d => match d with | .int j => .str ⟨#[ltr (n / 2000 + 3 * j)]⟩ | _ => .non) (it_rng1 (n := k) (s_cons (e_var rfl) s_nil) (by omega)) (by rw [rg_len]; omega) (fun d hd => ?_))) ?_
    · unfold rngD at hd
      obtain ⟨j, hj, rfl⟩ := List.mem_map.mp hd
      rw [wipe1]
      exact e_let rfl (e_op (e_op (e_var rfl) e_int (d_fdv (by decide) (by decide))) (e_op e_int (e_var rfl) (d_mulI (Or.inl (by decide)))) d_addI)
    · unfold rngD
      rw [List.map_map]
      refine congrArg D.lst (List.map_congr_left fun j _ => ?_)
      show D.str _ = D.str _
      unfold sgV
      rw [Int.zero_add]
  · refine e_is (e_share (o_lcM (fun d => match d with | .str s => .str (cutS (bsS n) none (some (atV n)) ++ s ++ cutS (bsS n) (some (atV n)) (some (lngV n))) | _ => .non) (it_list (e_var rfl)) (by rw [List.length_map, List.length_range]; omega) (fun d hd => ?_))) ?_
    · obtain ⟨j, hj, rfl⟩ := List.mem_map.mp hd
      rw [wipe1]
      have hn := nm_short (nm0_is n j)
      have hc : ∀ lo hi, (cutS (bsS n) lo hi).length ≤ 8 := fun lo hi => by
        have := cutS_length (bsS n) lo hi
        omega
      have h1 : (⟨#[sgV n j]⟩ : Str).length = 1 := rfl
      have h2 : (cutS (bsS n) none (some (atV n)) ++ (⟨#[sgV n j]⟩ : Str)).length = (cutS (bsS n) none (some (atV n))).length + 1 := by
        rw [len_tl, tl_append, List.length_append, ← len_tl]
        rfl
      refine e_op (e_op (e_slS (e_var rfl) p_none (p_some (e_var rfl)) (by omega)) (e_var rfl) (d_addS ?_)) (e_slS (e_var rfl) (p_some (e_var rfl)) (p_some (e_var rfl)) (by omega)) (d_addS ?_)
      · have := hc none (some (atV n))
        omega
      · have := hc none (some (atV n))
        have := hc (some (atV n)) (some (lngV n))
        omega
    · rw [List.map_map, List.map_map]
      rfl
  · refine e_is (e_share (o_lcM2 (by decide) (fun d => match d with | .tup [a, _] => a | _ => .non) (fun d => match d with | .tup [_, b] => b | _ => .non) (fun d => match d with | .tup [.int a, .str z] => .str (if z.length < 8 then z ++ (if a % 2 = 1 then ⟨#[(tl (bsS n)).getD ((a % 8).toNat) 0]⟩ else Str.empty) else z) | _ => .non) (it_enum (s_cons (e_var rfl) s_nil)) (by unfold enumD; rw [List.length_map, List.length_range, List.length_map, List.length_map, List.length_range]; omega) (fun d hd => ?_) (fun d hd => ?_))) ?_
    · unfold enumD at hd
      obtain ⟨i, _, rfl⟩ := List.mem_map.mp hd
      rfl
    · unfold enumD at hd
      obtain ⟨i, hi, rfl⟩ := List.mem_map.mp hd
      have hi' := List.mem_range.mp hi
      rw [List.length_map, List.length_map, List.length_range] at hi'
      have eg : (((List.range k.toNat).map fun j => nm0 n j).map D.str).getD i .non = .str (nm0 n i) := by
        rw [List.getD_eq_getElem?_getD, List.getElem?_map, List.getElem?_map, List.getElem?_range hi']
        rfl
      rw [eg]
      have hs := nm_short (nm0_is n i)
      have h0 : 0 ≤ ((i : Int) % 8) := Int.emod_nonneg _ (by decide)
      have h1 : ((i : Int) % 8) < 8 := Int.emod_lt_of_pos _ (by decide)
      have hk01 : ((i : Int) % 2) = 0 ∨ ((i : Int) % 2) = 1 := by omega
      have hbl2 : (tl (bsS n)).length = 8 := bs_len n
      have tt := t_test (K := K) (e_op (e_cb (s_cons (e_var (G := ((wipeG (((((((args nm_l_names.length [.int n, .int k]).set 2 (.dat (.str lets))).set 3 (.dat (.str (bsS n)))).set 5 (.dat (.int (lngV n)))).set 6 (.dat (.int (atV n)))).set 7 (.dat (.lst ((List.range k.toNat).map fun j => .str ⟨#[sgV n j]⟩)))).set 9 (.dat (.lst (((List.range k.toNat).map fun j => nm0 n j).map D.str)))) [8, 11]).set 8 (.dat (.int (i : Int)))).set 11 (.dat (.str (nm0 n i)))) (i := 11) rfl) s_nil) (n_lenS (by omega))) (e_int (i := 8)) d_ltI)
      by_cases hL : (nm0 n i).length < 8
      · refine e_is (e_if (x := true) (t_is tt (decide_eq_true (by omega))) (fun _ => e_op (e_var rfl) (e_op (e_op (e_var rfl) (e_op (e_var rfl) e_int (d_mod (by decide))) (d_ixSn (by omega) h0 (by rw [hbl2]; exact h1))) (e_op (e_var rfl) e_int (d_mod (by decide))) (d_repS hk01)) (d_addS ?_)) (fun q => nomatch q)) ?_
        · have : (if ((i : Int) % 2) = 1 then (⟨#[(tl (bsS n)).getD (((i : Int) % 8).toNat) 0]⟩ : Str) else Str.empty).length ≤ 1 := by
            split
            · exact Nat.le_refl 1
            · exact Nat.zero_le _
          exact Nat.le_trans (Nat.add_le_add_left this _) (by omega)
        · show _ = D.str (if (nm0 n i).length < 8 then _ else _)
          rw [if_pos hL]
      · refine e_is (e_if (x := false) (t_is tt (decide_eq_false (by omega))) (fun q => nomatch q) (fun _ => e_var rfl)) ?_
        show _ = D.str (if (nm0 n i).length < 8 then _ else _)
        rw [if_neg hL]
    · unfold enumD nmsL
      rw [List.map_map, List.length_map, List.length_map, List.length_range]
      refine congrArg D.lst ((List.map_congr_left (g := fun i => D.str (nm1 n i)) fun i hi => by
      have hi' := List.mem_range.mp hi
      have eg : (((List.range k.toNat).map fun j => nm0 n j).map D.str).getD i .non = .str (nm0 n i) := by
        rw [List.getD_eq_getElem?_getD, List.getElem?_map, List.getElem?_map, List.getElem?_range hi']
        rfl
      show (match D.tup [.int (i : Int), (((List.range k.toNat).map fun j => nm0 n j).map D.str).getD i .non] with | .tup [.int a, .str z] => D.str (if z.length < 8 then z ++ (if a % 2 = 1 then ⟨#[(tl (bsS n)).getD ((a % 8).toNat) 0]⟩ else Str.empty) else z) | _ => .non) = D.str (nm1 n i)
      rw [eg]
      rfl).trans (by rw [List.map_map]; rfl))
theorem row_sm {r : Row} (h : RowOk r) : Sm 1 300 (rowD r) := by
  have := h.p0
  have := h.p1
  have := h.h0
  have := h.h1
  have := h.w0
  have := h.w1
  exact (sm_tup (k := 4) (.cons (sm_nm h.nm) (.cons (sm_int (by omega)) (.cons (sm_int (by omega)) (.cons (sm_int (by omega)) .nil)))) (by show 4 ≤ 4; decide)).mono (by decide) (by decide)
theorem rd_l_stacks (K : PySem.W.Frag) (Z : CF K A) {ds : List D} {d : D} (h : R_l_stacks ds d) : StD K (t_l_stacks K A) (args nm_l_stacks.length ds) (.rt d) := by
  obtain ⟨ns, t, rfl, ht, hl, rfl⟩ := h
  have hsz := sz_in (nb ns t)
  unfold t_l_stacks
  refine st_seq (st_asg (d := .int (nb ns t)) (e_nb rfl (e_var rfl) (by omega) hl) g_name) ?_
  refine st_seq (st_asg (d := .int (szV (nb ns t))) (e_op (e_is (b := .lst ((szL (nb ns t)).map D.int)) (e_share (o_lst (ds := [.int 1, .int 2, .int 3, .int 5, .int 20, .int (2 + nb ns t / 6 % 4)]) (s_cons e_int (s_cons e_int (s_cons e_int (s_cons e_int (s_cons e_int (s_cons (e_op e_int (e_op (e_op (e_var rfl) e_int (d_fdv (by decide) (by decide))) e_int (d_mod (by decide))) d_addI) s_nil)))))) (by show 6 ≤ 100000; decide))) rfl) (e_op (e_var rfl) e_int (d_mod (by decide))) (d_ixI (Int.emod_nonneg _ (by decide)) (Int.emod_lt_of_pos _ (by decide)))) g_name) ?_
  refine st_seq (st_asg (d := .lst ((nmsL (nb ns (t + 1)) (szV (nb ns t)).toNat).map D.str)) (e_call (s_cons (e_nb rfl (e_op (e_var rfl) e_int d_addI) (by omega) hl) (s_cons (e_var rfl) s_nil)) ⟨nb ns (t + 1), szV (nb ns t), rfl, by omega, rfl⟩) g_name) ?_
  refine st_seq (st_asg (d := .int (nb ns t / 30 % 40)) (e_op (e_op (e_var rfl) e_int (d_fdv (by decide) (by decide))) e_int (d_mod (by decide))) g_name) ?_
  refine st_seq (st_asgO (o_lst s_nil (by show 0 ≤ 100000; decide))) ?_
  generalize hN : nmsL (nb ns (t + 1)) (szV (nb ns t)).toNat = N
  have hNl : N.length = (szV (nb ns t)).toNat := by
    rw [← hN]
    unfold nmsL
    rw [List.length_map, List.length_range]
  have hNg : ∀ i : Nat, i < (szV (nb ns t)).toNat → N.getD i Str.empty = nm1 (nb ns (t + 1)) i := fun i hi => by
    rw [← hN]
    unfold nmsL
    rw [List.getD_eq_getElem?_getD, List.getElem?_map, List.getElem?_range hi]
    rfl
  let C : Nat → List Sl := fun i => [.dat (.scr ns), .dat (.int t), .dat (.int (nb ns t)), .dat (.int (szV (nb ns t))), .dat (.lst (N.map D.str)), .dat (.int (plV ns t i)), .own (.lst (((List.range i).map (row1 ns t)).map rowD)), .no, .no, .no, .no, .no]
  refine st_seq (G1 := C (szV (nb ns t)).toNat) (st_for (it_rng1 (n := szV (nb ns t)) (s_cons (e_var rfl) s_nil) (by omega)) C rfl (fun i => (C i).set 7 (.dat (.int (i : Int)))) (fun i d hd => ?_)
    (fun i => .nx (((((C (i + 1)).set 7 (.dat (.int (i : Int)))).set 8 (.dat (.int (nb ns (t + 2 + (i : Int)))))).set 9 (.dat (.int (hiV (nb ns (t + 2 + (i : Int))))))).set 10 (.dat (.int (wtV (nb ns (t + 2 + (i : Int)))))))) (fun i hi _ => ?_) (fun i hi => .inl ⟨_, .inl rfl, Wk.keep (Wk.keep (Wk.keep (Wk.keep (Wk.keep (Wk.keep (Wk.keep (Wk.drop (Wk.drop (Wk.drop (Wk.drop (Wk.keep Wk.nil)))))))))))⟩) (fun _ => by rw [rg_len])) ?_
  · obtain ⟨_, rfl⟩ := rg_get hd
    rw [Int.zero_add]
    exact g_name
  · rw [rg_len] at hi
    refine st_seq (st_asg (d := .int (nb ns (t + 2 + (i : Int)))) (e_nb rfl (e_op (e_op (e_var rfl) e_int d_addI) (e_var rfl) d_addI) (by omega) hl) g_name) ?_
    have hp1 : plV ns t (i + 1) = plV ns t i + 1 + stV (nb ns (t + 2 + (i : Int))) := rfl
    have hr1 : row1 ns t i = (nm1 (nb ns (t + 1)) i, plV ns t i, hiV (nb ns (t + 2 + (i : Int))), wtV (nb ns (t + 2 + (i : Int)))) := rfl
    have el : ((List.range (i + 1)).map (row1 ns t)).map rowD = ((List.range i).map (row1 ns t)).map rowD ++ [rowD (row1 ns t i)] := by
      rw [List.range_succ, List.map_append, List.map_append]
      rfl
    have ll : (((List.range i).map (row1 ns t)).map rowD).length < 100000 := by
      rw [List.length_map, List.length_map, List.length_range]
      omega
    generalize hc : nb ns (t + 2 + (i : Int)) = c at *
    show StD K _ [.dat (.scr ns), .dat (.int t), .dat (.int (nb ns t)), .dat (.int (szV (nb ns t))), .dat (.lst (N.map D.str)), .dat (.int (plV ns t i)), .own (.lst (((List.range i).map (row1 ns t)).map rowD)), .dat (.int (i : Int)), .dat (.int c), .no, .no, .no] (.nx [.dat (.scr ns), .dat (.int t), .dat (.int (nb ns t)), .dat (.int (szV (nb ns t))), .dat (.lst (N.map D.str)), .dat (.int (plV ns t (i + 1))), .own (.lst (((List.range (i + 1)).map (row1 ns t)).map rowD)), .dat (.int (i : Int)), .dat (.int c), .dat (.int (hiV c)), .dat (.int (wtV c)), .no])
    rw [el, hp1, hr1]
    have hin : i < (szV (nb ns t)).toNat := hi
    have hni := hNg i hin
    generalize ((List.range i).map (row1 ns t)).map rowD = L at ll
    generalize plV ns t i = pl at *
    refine st_seq (st_asg (d := .int (hiV c)) (e_op (e_is (b := .lst ((hiL c).map D.int)) (e_share (o_lst (ds := [.int 1, .int 2, .int 3, .int 20, .int (1 + c / 5 % 20)]) (s_cons e_int (s_cons e_int (s_cons e_int (s_cons e_int (s_cons (e_op e_int (e_op (e_op (e_var rfl) e_int (d_fdv (by decide) (by decide))) e_int (d_mod (by decide))) d_addI) s_nil))))) (by show 5 ≤ 100000; decide))) rfl) (e_op (e_var rfl) e_int (d_mod (by decide))) (d_ixI (Int.emod_nonneg _ (by decide)) (Int.emod_lt_of_pos _ (by decide)))) g_name) ?_
    have q100 : ∀ {G : List Sl}, G[8]? = some (.dat (.int c)) → EvD K (tOp (gFdv) (tVar 8) (tC (.int 100))) G (.int (c / 100)) := fun h => e_op (e_var h) e_int (d_fdv (by decide) (by decide))
    refine st_seq (st_asg (d := .int (wtV c)) (e_op (e_is (b := .lst ((wtL c).map D.int)) (e_share (o_lst (ds := [.int (1 + c / 100 % 9), .int (10 + c / 100 % 30), .int 1000000000000, .int 500000000000, .int 20]) (s_cons (e_op e_int (e_op (q100 rfl) e_int (d_mod (by decide))) d_addI) (s_cons (e_op e_int (e_op (q100 rfl) e_int (d_mod (by decide))) d_addI) (s_cons (e_op e_int e_int d_pow12) (s_cons (e_op e_int (e_op e_int e_int (d_pow ⟨by decide, by decide, by decide⟩)) (d_mulI (Or.inl (by decide)))) (s_cons e_int s_nil))))) (by show 5 ≤ 100000; decide))) rfl) (e_op (e_op (e_var rfl) e_int (d_fdv (by decide) (by decide))) e_int (d_mod (by decide))) (d_ixI (Int.emod_nonneg _ (by decide)) (Int.emod_lt_of_pos _ (by decide)))) g_name) ?_
    have eN : EvD K (tOp (gIx K) (tVar 4) (tVar 7)) [.dat (.scr ns), .dat (.int t), .dat (.int (nb ns t)), .dat (.int (szV (nb ns t))), .dat (.lst (N.map D.str)), .dat (.int pl), .own (.lst L), .dat (.int (i : Int)), .dat (.int c), .dat (.int (hiV c)), .dat (.int (wtV c)), .no] (.str (nm1 (nb ns (t + 1)) i)) :=
      e_is (e_op (e_var rfl) (e_var rfl) (d_ixStr (ns := N) (by omega) (by omega))) (by rw [Int.toNat_natCast, hni])
    refine st_seq (st_app (i := 6) (d := rowD (nm1 (nb ns (t + 1)) i, pl, hiV c, wtV c)) rfl (e_tup (s_cons eN (s_cons (e_var rfl) (s_cons (e_var rfl) (s_cons (e_var rfl) s_nil)))) (by show 4 ≤ 100000; decide)) ll) ?_
    have hst := st_in c
    have h30 : 0 ≤ c / 9 % 3 := Int.emod_nonneg _ (by decide)
    have h31 : c / 9 % 3 < 3 := Int.emod_lt_of_pos _ (by decide)
    refine st_asg (e_op (e_op (e_var rfl) e_int d_addI) (e_op (e_op (e_op (e_var rfl) e_int (d_fdv (by decide) (by decide))) e_int (d_mod (by decide))) (e_op (e_is (b := .lst (stL.map D.int)) (e_share (o_lst (ds := [.int 1, .int 1, .int 1000000000]) (s_cons e_int (s_cons e_int (s_cons (e_op e_int e_int d_pow9) s_nil))) (by show 3 ≤ 100000; decide))) rfl) (e_op (e_op (e_var rfl) e_int (d_fdv (by decide) (by decide))) e_int (d_mod (by decide))) (d_ixI h30 h31)) (d_mulI (Or.inl ?_))) d_addI) g_name
    have a0 : 0 ≤ c / 700 % 9 := Int.emod_nonneg _ (by decide)
    have a1 : c / 700 % 9 < 9 := Int.emod_lt_of_pos _ (by decide)
    omega
  have hlen : (rows0 ns t).length = (szV (nb ns t)).toNat := rows0_len ns t
  have hf0 : 0 ≤ nb ns t / 1200 % szV (nb ns t) := Int.emod_nonneg _ (by omega)
  have hf1 : nb ns t / 1200 % szV (nb ns t) < szV (nb ns t) := Int.emod_lt_of_pos _ (by omega)
  refine st_freeze (i := 6) rfl ?_
  show StD K _ [.dat (.scr ns), .dat (.int t), .dat (.int (nb ns t)), .dat (.int (szV (nb ns t))), .dat (.lst (N.map D.str)), .dat (.int (plV ns t (szV (nb ns t)).toNat)), .dat (.lst ((rows0 ns t).map rowD)), .no, .no, .no, .no, .no] _
  obtain ⟨f, hf⟩ : ∃ f : Nat, nb ns t / 1200 % szV (nb ns t) = (f : Int) := ⟨_, (Int.toNat_of_nonneg hf0).symm⟩
  have hff : fstV ns t = f := by
    unfold fstV
    rw [hf, Int.toNat_natCast]
  refine st_seq (st_asg (d := .int (f : Int)) (e_is (e_op (e_op (e_var rfl) e_int (d_fdv (by decide) (by decide))) (e_var rfl) (d_mod (by omega))) (by rw [hf])) g_name) (st_ret ?_)
  refine e_is (e_cat (e_share (o_sl (e_var rfl) (p_some (e_var rfl)) p_none)) (e_share (o_sl (e_var rfl) p_none (p_some (e_var rfl)))) ?_) ?_
  · have a : ∀ lo hi, (cutD ((rows0 ns t).map rowD) lo hi).length ≤ 20 := fun lo hi => by
      unfold cutD
      rw [List.length_take, List.length_drop, List.length_map, hlen]
      omega
    have := a (some (f : Int)) none
    have := a none (some (f : Int))
    omega
  · unfold rowsL cutD
    rw [hff, HT.sIx_none, HT.sIx_none, HT.sIx_nat, HT.sIx_nat, List.length_map, hlen, List.map_append, List.map_drop, List.map_take, List.drop_zero, Nat.sub_zero]
    have e1 : min f (szV (nb ns t)).toNat = f := by omega
    rw [e1]
    congr 2
    rw [List.take_of_length_le]
    rw [List.length_drop, List.length_map, hlen]
    omega

theorem at_row {r : Row} : ∀ {rs : List Row} {i : Nat}, (rs.map fun r => r.1).Nodup → rs[i]? = some r → find rs r.1 = some r.2 ∧ idx rs r.1 = i
  | q :: rs, 0, _, h => by
    have : q = r := by simpa using h
    subst this
    exact ⟨find_pos rfl, if_pos rfl⟩
  | q :: rs, i + 1, hn, h => by
    rw [List.map_cons, List.nodup_cons] at hn
    have h' : rs[i]? = some r := by simpa using h
    have hm : r ∈ rs := by
      obtain ⟨h1, h2⟩ := List.getElem?_eq_some_iff.mp h'
      exact h2 ▸ List.getElem_mem h1
    have hne : ¬ q.1 = r.1 := fun e => hn.1 (by rw [e]; exact List.mem_map.mpr ⟨r, hm, rfl⟩)
    obtain ⟨h1, h2⟩ := at_row hn.2 h'
    refine ⟨(find_neg hne).trans h1, ?_⟩
    show (if q.1 = r.1 then 0 else idx rs r.1 + 1) = i + 1
    rw [if_neg hne, h2]
theorem firstP_some {f : Key × D → Option D} {r : D} : ∀ {es : List (Key × D)}, firstP f es = some r → ∃ p ∈ es, f p = some r
  | p :: es, h => by
    unfold firstP at h
    cases q : f p with
    | some r' =>
      rw [q] at h
      cases h
      exact ⟨p, List.mem_cons_self, q⟩
    | none =>
      rw [q] at h
      obtain ⟨p', h1, h2⟩ := firstP_some h
      exact ⟨p', List.mem_cons_of_mem _ h1, h2⟩
theorem firstP_all {f : Key × D → Option D} : ∀ {es : List (Key × D)}, firstP f es = none → ∀ p ∈ es, f p = none
  | p :: es, h, p', hp => by
    unfold firstP at h
    cases q : f p with
    | some r' =>
      rw [q] at h
      cases h
    | none =>
      rw [q] at h
      rcases List.mem_cons.mp hp with z | z
      · rw [z]
        exact q
      · exact firstP_all h p' z
theorem whP_eq {b : Str} {k : Key} {l : List (Str × Int)} : whP b (k, pileD l) = if b ∈ l.map (fun p => p.1) then some (keyD k) else none := by
  show (if ((l.map boxD).any fun e => match e with | .tup (.str c :: _) => decide (c = b) | _ => false) = true then some (keyD k) else none) = _
  have : (((l.map boxD).any fun e => match e with | .tup (.str c :: _) => decide (c = b) | _ => false) = true) = (b ∈ l.map fun p => p.1) := by
    rw [List.any_map]
    refine propext ⟨fun h => ?_, fun h => ?_⟩
    · obtain ⟨p, h1, h2⟩ := List.any_eq_true.mp h
      exact List.mem_map.mpr ⟨p, h1, of_decide_eq_true h2⟩
    · obtain ⟨p, h1, h2⟩ := List.mem_map.mp h
      exact List.any_eq_true.mpr ⟨p, h1, decide_eq_true h2⟩
  simp only [this]
theorem wh_cases {s : Stk} (ok : StkOk s) (b : Str) : (whD s.told s.piles b = .non ∧ ∀ n t, tri s n = some t → b ∉ (pileAt s n).map fun p => p.1) ∨ ∃ m t, whD s.told s.piles b = .str m ∧ tri s m = some t ∧ b ∈ (pileAt s m).map fun p => p.1 := by
  have hp := ok.pl
  have hk : (keyR s.told).length = s.told.length := by unfold keyR; rw [List.length_map]
  cases q : firstP (whP b) ((keyR s.told).zip (s.piles.map pileD)) with
  | none =>
    refine .inl ⟨by unfold whD; rw [q]; rfl, fun n t ht hm => ?_⟩
    obtain ⟨h1, h2⟩ := idx_lt ht
    have hmem : ((.inr n : Key), pileD (pileAt s n)) ∈ (keyR s.told).zip (s.piles.map pileD) := by
      refine List.mem_of_getElem? (i := idx s.told n) ?_
      rw [List.getElem?_zip_eq_some]
      refine ⟨?_, ?_⟩
      · unfold keyR
        rw [List.getElem?_map, h2]
        rfl
      · rw [List.getElem?_map, List.getElem?_eq_getElem (by omega)]
        unfold pileAt
        rw [List.getD_eq_getElem?_getD, List.getElem?_eq_getElem (by omega)]
        rfl
    have := firstP_all q _ hmem
    rw [whP_eq, if_pos hm] at this
    cases this
  | some r =>
    obtain ⟨p, h1, h2⟩ := firstP_some q
    obtain ⟨i, hi⟩ := List.getElem?_of_mem h1
    obtain ⟨k, v⟩ := p
    rw [List.getElem?_zip_eq_some] at hi
    obtain ⟨i1, i2⟩ := hi
    have i1' : (keyR s.told)[i]? = some k := i1
    have i2' : (s.piles.map pileD)[i]? = some v := i2
    unfold keyR at i1'
    rw [List.getElem?_map] at i1' i2'
    cases e1 : s.told[i]? with
    | none =>
      rw [e1] at i1'
      cases i1'
    | some row =>
      cases e2 : s.piles[i]? with
      | none =>
        rw [e2] at i2'
        cases i2'
      | some pl =>
        rw [e1] at i1'
        rw [e2] at i2'
        cases i1'
        cases i2'
        rw [whP_eq] at h2
        obtain ⟨g1, g2⟩ := at_row ok.ro.nn e1
        have hpa : pileAt s row.1 = pl := by
          unfold pileAt
          rw [g2, List.getD_eq_getElem?_getD, e2]
          rfl
        by_cases hb : b ∈ pl.map fun p => p.1
        · rw [if_pos hb] at h2
          cases h2
          exact .inr ⟨row.1, row.2, by unfold whD; rw [q]; rfl, g1, by rw [hpa]; exact hb⟩
        · rw [if_neg hb] at h2
          cases h2
theorem wg_in (c : Int) : 1 ≤ wgV c ∧ wgV c ≤ 1000000000000 := by
  have h0 : 0 ≤ c % 4 := Int.emod_nonneg _ (by decide)
  have h1 : c % 4 < 4 := Int.emod_lt_of_pos _ (by decide)
  have hm := getD_in (0 : Int) (wgL c) (c % 4).toNat (by show (c % 4).toNat < 4; omega)
  have h : ∀ x ∈ wgL c, 1 ≤ x ∧ x ≤ 1000000000000 := by
    intro x hx
    simp only [wgL, List.mem_cons, List.not_mem_nil, or_false] at hx
    have a0 : 0 ≤ c / 4 % 9 := Int.emod_nonneg _ (by decide)
    have a1 : c / 4 % 9 < 9 := Int.emod_lt_of_pos _ (by decide)
    have b0 : 0 ≤ c / 4 % 3 := Int.emod_nonneg _ (by decide)
    have b1 : c / 4 % 3 < 3 := Int.emod_lt_of_pos _ (by decide)
    omega
  exact h _ hm
theorem StkAt.congr {C : Addr} {M M' : Sto} {x L : Addr} {la : List Addr} {s : Stk} (h : StkAt C M x L la s) (e : ∀ a ∈ x :: L :: la, M' a = M a) : StkAt C M' x L la s :=
  ⟨h.ok, by rw [e x List.mem_cons_self]; exact h.ins, by rw [e L (List.mem_cons_of_mem _ List.mem_cons_self)]; exact h.lyi, h.ll, fun i hi => by rw [e _ (List.mem_cons_of_mem _ (List.mem_cons_of_mem _ (getD_memA hi)))]; exact h.pil i hi, h.nd⟩
theorem own_vw {M : Sto} {rs : List Row} {pa : List Addr} {ps : List (List (Str × Int))} (h : OwnAt M rs pa ps) : VwD M (ownD rs (pa.map D.ptr)) (ownD rs (ps.map pileD)) := by
  have e1 := h.ll
  have e2 := h.lp
  have hk : (keyR rs).length = rs.length := by unfold keyR; rw [List.length_map]
  refine .dic rfl (.cons (.same _) (.cons (.dic ?_ ?_) .nil))
  · rw [List.map_fst_zip (by rw [List.length_map]; omega), List.map_fst_zip (by rw [List.length_map]; omega)]
  · rw [List.map_snd_zip (by rw [List.length_map]; omega), List.map_snd_zip (by rw [List.length_map]; omega)]
    exact vwa_piles (by omega) h.pil
theorem pile_eq {s : Stk} {n : Str} : pileOf s.told s.piles n = pileAt s n := rfl
theorem valE_own {s : Stk} {n : Str} {t : Int × Int × Int} (ok : StkOk s) (ht : tri s n = some t) : valE ((keyR s.told).zip (s.piles.map pileD)) (.inr n) = some (pileD (pileAt s n)) := piles_at ht ok.pl
theorem valE_ownP {s : Stk} {n : Str} {t : Int × Int × Int} {pa : List Addr} (ht : tri s n = some t) (hl : pa.length = s.told.length) : valE ((keyR s.told).zip (pa.map D.ptr)) (.inr n) = some (.ptr (pa.getD (idx s.told n) 0)) := valE_ptr ht hl
theorem box_sm {p : Str × Int} (h1 : nmS p.1 = true) (h2 : 0 ≤ p.2 ∧ p.2 ≤ 1000000000000) : Sm 1 200 (boxD p) := (sm_tup (k := 2) (.cons (sm_nm h1) (.cons (sm_int (by omega)) .nil)) (by show 2 ≤ 2; decide)).mono (by decide) (by decide)
theorem pile_sm {s : Stk} {n : Str} {t : Int × Int × Int} (ok : StkOk s) (f : StkFull s) (hb : ∀ n t, tri s n = some t → ∀ p ∈ pileAt s n, 0 ≤ p.2 ∧ p.2 ≤ 1000000000000) (ht : tri s n = some t) : Sm 6 60003 (pileD (pileAt s n)) := by
  have hl := pile_len ok ht
  refine (sm_lst (n := 1) (w := 200) (k := 40) (fun d hd => ?_) (by rw [List.length_map]; exact hl)).mono (by decide) (by decide)
  obtain ⟨p, hp, rfl⟩ := List.mem_map.mp hd
  exact box_sm (f.nm n t ht p hp) (hb n t ht p hp)

def row0 (rs : List Row) (i : Nat) : Row := rs.getD i ("", 0, 0, 0)

theorem retP_nx {P : Res → Sto → Prop} {X : XK} : ∀ G M, ¬ RetP P X (.nx G) M := fun G M h => by
  rcases h with ⟨d, q, _⟩ | ⟨C, q, _⟩ <;> cases q
theorem m_retQ {K : PySem.W.Frag} {te : TE} {M : Sto} {G : List Sl} {P : Res → Sto → Prop} {X X' : XK} (hx : ∀ C M', ¬ P (.exc C) M') (h : EvM K te X' M G P) : StM K (tRet te) M G (RetP P X) := m_retM h (fun d M' k => .inl ⟨d, rfl, k⟩) (fun C M' k => absurd k (hx C M'))
theorem strOk_nm {z : Str} (h : nmS z = true) : PyData.strOk z = true := by
  unfold nmS at h
  rw [Bool.and_eq_true] at h
  have hl := List.all_eq_true.mp h.2
  unfold PyData.strOk
  rw [← Array.all_toList]
  refine List.all_eq_true.mpr fun c hc => ?_
  have := hl c hc
  unfold letter at this
  rw [Bool.and_eq_true, decide_eq_true_iff, decide_eq_true_iff] at this
  exact decide_eq_true (by omega)
theorem eqD_ne {l : List (Str × Int)} {p : Str × Int} : eqD (pileD (l ++ [p])) (.lst []) = false := by
  cases l <;> rfl
theorem e_mopM {K : PySem.W.Frag} {te tb : TE} {X : XK} {M : Sto} {G : List Sl} {R R1 : Res → Sto → Prop} {r : R2} (h1 : EvM K te X M G R1) (h2 : ∀ d M', R1 (.ok d) M' → ∃ R2 : Res → Sto → Prop, EvM K tb X M' G R2 ∧ (∀ b M'', R2 (.ok b) M'' → ∃ c, Op2 K r d b c ∧ R (.ok c) M'') ∧ ∀ C M'', ¬ R2 (.exc C) M'') (hx : ∀ C M', ¬ R1 (.exc C) M') : EvM K (tOp r te tb) X M G R := ⟨fun {H0 F0 F H σ} E Q q qx =>
  h1.run E _ (fun d M' k v F1 H1 E1 f1 r1 => by
    obtain ⟨R2, k1, k2, k3⟩ := h2 d M' k
    exact k1.run E1 _ (fun b M'' kb w F2 H2 E2 f2 r2 => by
      obtain ⟨c, z1, z2⟩ := k2 b M'' kb
      exact z1.run E2.en.ef (r1.mono f2) r2 Q fun z F3 H3 f3 e3 g3 n3 r3 => q c M'' z2 z F3 H3 (E2.grow f3 g3 e3 n3) ((f1.trans f2).trans f3) r3) fun C M'' kb => absurd kb (k3 C M'')) fun C M' k => absurd k (hx C M')⟩
def putP (A : XA) (M : Sto) (x L : Addr) (la : List Addr) (s : Stk) : Res → Sto → Prop := fun r M' => r = .ok .non ∧ StkAt A.c_Stacks M' x L la s ∧ Same M M' (x :: L :: la)
theorem p_put {M : Sto} {x L : Addr} {la : List Addr} {s : Stk} {b n : Str} {w : Int} {t : Int × Int × Int} (hat : StkAt A.c_Stacks M x L la s) (hb : nmS b = true) (hw : 1 ≤ w ∧ w ≤ 1000000000000) (hn : nmS n = true) (ht : tri s n = some t) (hl : find s.lying b = none) (hz : s.lying.length ≤ 900) (hsp : space A s n t w = .ok .non) :
    R_Stacks_put A [.ptr x, .str b, .int w, .str n] M (putP A M x L la (putS s b w n)) :=
  ⟨x, L, la, s, .str b, .int w, .str n, rfl, hat, thing_nm hb, rfl, thing_nm hn, .inr (.inr (.inr (.inr ⟨b, w, n, t, rfl, rfl, rfl, hb, among_yes hw, hn, ht, by show (nmS b && (find s.lying b).isSome) = false; rw [hl, hb]; rfl, hz, .inr ⟨hsp, rfl⟩⟩)))⟩
theorem sp_ok {s : Stk} {n : Str} {t : Int × Int × Int} {w : Int} (h1 : ((pileAt s n).length : Int) < t.2.1) (h2 : wsum (pileAt s n) + w ≤ t.2.2) : space A s n t w = .ok .non := by
  unfold space
  rw [if_neg (by omega), if_neg (by omega)]
theorem row0_mem {rs : List Row} {i : Nat} (h : i < rs.length) : row0 rs i ∈ rs := getD_in _ rs i h

theorem okD_box (l : List (Str × Int)) (h : ∀ p ∈ l, nmS p.1 = true) : okD 3 (.lst (l.map boxD)) = true := by
  show (l.map boxD).all (okD 2) = true
  rw [List.all_map]
  refine List.all_eq_true.mpr fun p hp => ?_
  have hn := h p hp
  show (PyData.strOk p.1 && (true && true)) = true
  have : PyData.strOk p.1 = true := strOk_nm hn
  rw [this]
  rfl
theorem set_getD {α : Type} {l : List α} {i j : Nat} {v e : α} (hi : i < l.length) : (l.set i v).getD j e = if j = i then v else l.getD j e := by
  by_cases h : j = i
  · subst h
    rw [if_pos rfl, List.getD_eq_getElem?_getD, List.getElem?_set_self hi]
    rfl
  · rw [if_neg h, List.getD_eq_getElem?_getD, List.getElem?_set_ne (fun z => h z.symm), List.getD_eq_getElem?_getD]
theorem InvL.own2 {A : XA} {M M' : Sto} {x L : Addr} {la pa : List Addr} {s : Stk} {k : Nat} {n : Str} {t : Int × Int × Int} {q : List (Str × Int)} (h : InvL A M x L la pa s k) (ht : tri s n = some t) (h1 : M' (pa.getD (idx s.told n) 0) = some (.lst (q.map boxD))) (h2 : ∀ a ∈ pa, a ≠ pa.getD (idx s.told n) 0 → M' a = M a) : OwnAt M' s.told pa (s.piles.set (idx s.told n) q) := by
  obtain ⟨hi, _⟩ := idx_lt ht
  have hp := h.st.ok.pl
  refine ⟨h.own.ll, by rw [List.length_set]; exact h.own.lp, h.own.nd, fun i hi' => ?_⟩
  rw [set_getD (by omega)]
  by_cases e : i = idx s.told n
  · rw [if_pos e, e]
    exact h1
  · rw [if_neg e]
    have hl := h.own.ll
    rw [h2 _ (getD_memA hi') (fun z => e (getD_injA h.own.nd hi' (by omega) z))]
    exact h.own.pil i hi'
theorem rd_l_deed (K : PySem.W.Frag) (Z : CF K A) {ds : List D} {M : Sto} {P : Res → Sto → Prop} (E : XK) (h : R_l_deed A ds M P) : StM K (t_l_deed K A) M (args nm_l_deed.length ds) (OutP P E) := by
  obtain ⟨x, L, la, pa, s, k, bs, c, rfl, inv, hk, hbs, rfl⟩ := h
  have ok := inv.st.ok
  have l0 := ok.ro.l0
  have l1 := ok.ro.l1
  have hl12 := hbs.l12
  have hll : (s.told.map rowD).length = s.told.length := List.length_map ..
  have a0 : 0 ≤ c / 4 % (s.told.length : Int) := Int.emod_nonneg _ (by omega)
  have a1 : c / 4 % (s.told.length : Int) < (s.told.length : Int) := Int.emod_lt_of_pos _ (by omega)
  have b0 : 0 ≤ c / 100 % 12 := Int.emod_nonneg _ (by decide)
  have b1 : c / 100 % 12 < 12 := Int.emod_lt_of_pos _ (by decide)
  have hmem := row0_mem (rs := s.told) (i := (c / 4 % (s.told.length : Int)).toNat) (by omega)
  obtain ⟨t, ht⟩ := find_some_of hmem
  have ht' : tri s (row0 s.told (c / 4 % (s.told.length : Int)).toNat).1 = some t := ht
  have hnm := (ok.ro.ok _ hmem).nm
  have hw := wg_in (c / 2000)
  have hbn := hbs.nm _ (getD_in Str.empty bs (c / 100 % 12).toNat (by omega))
  unfold t_l_deed
  let G0 : List Sl := [.dat (.ptr x), .dat (ownD s.told (pa.map D.ptr)), .dat (.lst (bs.map D.str)), .dat (.int c), .no, .no, .no]
  refine m_seq1 (M1 := M) (G1 := G0.set 4 (.dat (.str (row0 s.told (c / 4 % (s.told.length : Int)).toNat).1))) (m_asg (r_pure (e_op (e_is (b := rowD (row0 s.told (c / 4 % (s.told.length : Int)).toNat)) (e_op (e_ownTold rfl) (e_is (e_op (e_op (e_var rfl) e_int (d_fdv (by decide) (by decide))) (e_cb (s_cons (e_ownTold rfl) s_nil) n_lenL) (d_mod (by omega))) (by rw [hll])) (d_ixLn a0 (by omega))) (by rw [getD_mapD rowD ("", 0, 0, 0) s.told _ (by omega)]; rfl)) e_int (d_ixT (by rfl)))) ⟨rfl, rfl⟩) ?_
  refine m_seq1 (M1 := M) (G1 := (G0.set 4 (.dat (.str (row0 s.told (c / 4 % (s.told.length : Int)).toNat).1))).set 5 (.dat (.str (bs.getD (c / 100 % 12).toNat Str.empty)))) (m_asg (r_pure (e_op (e_var rfl) (e_op (e_op (e_var rfl) e_int (d_fdv (by decide) (by decide))) e_int (d_mod (by decide))) (d_ixStr b0 (by omega)))) ⟨rfl, rfl⟩) ?_
  generalize (row0 s.told (c / 4 % (s.told.length : Int)).toNat).1 = n at ht' hnm ⊢
  generalize bs.getD (c / 100 % 12).toNat Str.empty = b at hbn ⊢
  obtain ⟨w, hwe⟩ : ∃ w, wgV (c / 2000) = w := ⟨_, rfl⟩
  rw [hwe] at hw
  let G1 : List Sl := [.dat (.ptr x), .dat (ownD s.told (pa.map D.ptr)), .dat (.lst (bs.map D.str)), .dat (.int c), .dat (.str n), .dat (.str b), .dat (.int w)]
  refine m_seq1 (M1 := M) (G1 := G1) (m_asg (r_pure (e_is (e_call (s_cons (e_op (e_var rfl) e_int (d_fdv (by decide) (by decide))) s_nil) ⟨c / 2000, rfl, rfl⟩) (by rw [hwe]))) ⟨rfl, rfl⟩) ?_
  let Gv : List Sl := [.dat (.ptr x), .dat (ownD s.told (s.piles.map pileD)), .dat (.lst (bs.map D.str)), .dat (.int c), .dat (.str n), .dat (.str b), .dat (.int w)]
  have vw : VwG M G1 Gv := .keep (.dat (own_vw inv.own) (.keep (.keep (.keep (.keep (.keep .nil))))))
  have hfew : ∀ p ∈ s.piles, p.length ≤ 1000 := fun p hp => Nat.le_trans (ok.few p hp) (by decide)
  obtain ⟨hi, _⟩ := idx_lt ht'
  have hpa := inv.own.ll
  have hip : idx s.told n < pa.length := by omega
  have hcell : M (pa.getD (idx s.told n) 0) = some (.lst ((pileAt s n).map boxD)) := inv.own.pil _ hip
  have hpm := getD_memA hip
  have hdjp := inv.dj _ hpm
  have hxa : ∀ a ∈ x :: L :: la, a ≠ pa.getD (idx s.told n) 0 := fun a ha z => hdjp (z ▸ ha)
  have hplen := pile_len ok ht'
  have rcell : ∀ {M' : Sto}, EvR K (tDGet (tDGet (tVar 1) (tC (.str ("piles" : Str)))) (tVar 4)) M' G1 (.ptr (pa.getD (idx s.told n) 0)) := r_pure (e_dget (k := .inr n) (e_ownPiles rfl) (e_var rfl) (valE_ownP ht' hpa))
  have tmay : TtR K (tAnd (tTest (tOp (gGt) (tOp (gMod) (tVar 3) (tC (.int 4))) (tC (.int 0)))) (tB (tCall (sp_l_may K A) [] E0 (tCons (tVar 1) (tCons (tVar 5) (tCons (tVar 6) (tCons (tVar 4) tNil))))))) M G1 (decide (0 < c % 4) && mayB s.told s.piles b w n t) := t_view vw (t_and (t_test (e_op (e_op (e_var rfl) e_int (d_mod (by decide))) e_int d_gtI)) (fun _ => t_B (e_call (s_cons (e_var rfl) (s_cons (e_var rfl) (s_cons (e_var rfl) (s_cons (e_var rfl) s_nil)))) ⟨s.told, s.piles, b, w, n, t, rfl, l1, ok.pl, hfew, ht', rfl⟩)))
  refine m_retP ?_
  cases hm : (decide (0 < c % 4) && mayB s.told s.piles b w n t) with
  | true =>
    rw [hm] at tmay
    rw [Bool.and_eq_true] at hm
    have hmay := hm.2
    unfold mayB at hmay
    rw [Bool.and_eq_true, Bool.and_eq_true, decide_eq_true_iff, decide_eq_true_iff] at hmay
    obtain ⟨⟨m1, m2⟩, m3⟩ := hmay
    have hnone : find s.lying b = none := by
      cases q : find s.lying b with
      | none => rfl
      | some m =>
        obtain ⟨u, hu, hmem⟩ := (inv.full.ly b m).mp q
        rcases wh_cases ok b with ⟨_, w2⟩ | ⟨m', t', w1, _, _⟩
        · exact absurd hmem (w2 m u hu)
        · rw [w1] at m1
          cases m1
    let M1 : Sto := updM M (pa.getD (idx s.told n) 0) (.lst ((pileAt s n).map boxD ++ [boxD (b, w)]))
    have hst1 : StkAt A.c_Stacks M1 x L la s := inv.st.congr fun a ha => updM_ne (hxa a ha)
    refine m_fire tmay (m_seq1 (M1 := M1) (G1 := G1) (m_app rcell hcell (r_tup (sr_cons (r_pure (e_var rfl)) (sr_cons (r_pure (e_var rfl)) sr_nil)) (by show 2 ≤ 100000; decide)) (by rw [List.length_map]; omega) ⟨rfl, rfl⟩) (m_retQ (fun C M' k => nomatch k.1) (e_mop (R1 := putP A M1 x L la (putS s b w n)) (e_mmeth (r_pure (e_var rfl)) hst1.ins rfl (s_pure (s_cons (e_var rfl) (s_cons (e_var rfl) (s_cons (e_var rfl) s_nil)))) (p_put hst1 hbn hw hnm ht' hnone (Nat.le_trans inv.ly (by omega)) (sp_ok m2 m3)) (fun r M' k => k)) (fun d M' k => ?_) (fun C M' k => nomatch k.1)))) retP_nx
    obtain ⟨k1, k2, k3⟩ := k
    cases k1
    refine ⟨.non, _, r_pure e_none, d_isN, rfl, putS s b w n, rfl, ⟨k2, ?_, full_put inv.full ok ht' hbn hnone, inv.dj, fun m u hu p hp => ?_, ?_⟩, fun a ha => ?_⟩
    · have := inv.own2 (M' := M') (q := pileAt s n ++ [(b, w)]) ht' (by rw [k3 _ hdjp]; show updM M _ _ _ = _; rw [updM_same, List.map_append]; rfl) (fun a ha hne => by rw [k3 a (inv.dj a ha)]; exact updM_ne hne)
      exact this
    · have hu' : tri s m = some u := hu
      rw [pileAt_put ok ht' hu'] at hp
      split at hp
      · rcases List.mem_append.mp hp with y | y
        · exact inv.bx n t ht' p y
        · rw [List.mem_singleton.mp y]
          exact ⟨by show 0 ≤ w; omega, hw.2⟩
      · exact inv.bx m u hu' p hp
    · show (s.lying ++ [(b, n)]).length ≤ k + 1
      rw [List.length_append]
      have := inv.ly
      show s.lying.length + 1 ≤ k + 1
      omega
    · have a3 : a ∉ x :: L :: la := fun y => ha (by
        rcases List.mem_cons.mp y with y | y
        · exact y ▸ List.mem_cons_self
        · rcases List.mem_cons.mp y with y | y
          · exact y ▸ List.mem_cons_of_mem _ List.mem_cons_self
          · exact List.mem_cons_of_mem _ (List.mem_cons_of_mem _ (List.mem_append_left _ y)))
      have a4 : a ≠ pa.getD (idx s.told n) 0 := fun y => ha (y ▸ List.mem_cons_of_mem _ (List.mem_cons_of_mem _ (List.mem_append_right _ hpm)))
      rw [k3 a a3]
      exact updM_ne a4
  | false =>
    rw [hm] at tmay
    refine m_pass tmay ?_
    have tempt : TtR K (tTest (tOp (gEq K) (tDGet (tDGet (tVar 1) (tC (.str ("piles" : Str)))) (tVar 4)) (tLst tNil))) M G1 (eqD (pileD (pileAt s n)) (.lst [])) := t_view vw (t_test (e_op (e_dget (k := .inr n) (e_ownPiles rfl) (e_var rfl) (valE_own ok ht')) (e_share (o_lst s_nil (by show 0 ≤ 100000; decide))) (d_eqD (ok_eq (okD_box _ (inv.full.nm n t ht')) (by decide)) (by decide +kernel))))
    rcases List.eq_nil_or_concat (pileAt s n) with he | ⟨l, p, he⟩
    · rw [he] at tempt
      refine m_fire (tr_is tempt (by decide +kernel)) (m_retQ (fun C M' k => nomatch k.1) (e_mr (X := E0) (r_pure e_bl) ⟨rfl, s, rfl, ⟨inv.st, inv.own, inv.full, inv.dj, inv.bx, Nat.le_succ_of_le inv.ly⟩, fun a _ => rfl⟩)) retP_nx
    · have he' : pileAt s n = l ++ [p] := by rw [he, List.concat_eq_append]
      obtain ⟨b', w'⟩ := p
      have hne : eqD (pileD (pileAt s n)) (.lst []) = false := by
        rw [he']
        exact eqD_ne
      refine m_pass (tr_is tempt hne) ?_
      have hbm : b' ∈ (pileAt s n).map fun p => p.1 := by rw [he', List.map_append]; exact List.mem_append_right _ (List.mem_singleton.mpr rfl)
      have hpmem : (b', w') ∈ pileAt s n := by rw [he']; exact List.mem_append_right _ (List.mem_singleton.mpr rfl)
      have hbox := box_sm (inv.full.nm n t ht' _ hpmem) (inv.bx n t ht' _ hpmem)
      obtain ⟨tx, htx⟩ := n_show (K := K) (hbox.mono (show 1 ≤ 6 by decide) (show 200 ≤ 60003 by decide))
      have hfl := (inv.full.ly b' n).mpr ⟨t, ht', hbm⟩
      let J1 : Sto → Prop := fun M' => StkAt A.c_Stacks M' x L la (takeS s n b') ∧ Same M M' (x :: L :: la)
      refine m_retQ (fun C M' k => nomatch k.1) (e_mopM (R1 := fun r M' => r = .ok (.str tx) ∧ J1 M') (e_mcb (R1 := fun r M' => r = .ok (boxD (b', w')) ∧ J1 M') (e_mmeth (r_pure (e_var rfl)) inv.st.ins rfl (s_pure (s_cons (e_var rfl) s_nil)) ⟨x, L, la, s, .str n, rfl, inv.st, thing_nm hnm, .inr ⟨n, t, rfl, hnm, ht', .inr ⟨l, b', w', he', inv.full.nm n t ht' _ hpmem, by rw [hfl]; rfl, rfl⟩⟩⟩ (fun r M' k => ⟨k.1, k.2 inv.full⟩)) (fun d M' k => ?_) (fun C M' k => nomatch k.1)) (fun d M' k => ?_) (fun C M' k => nomatch k.1))
      · obtain ⟨k1, k2⟩ := k
        cases k1
        exact ⟨_, htx, rfl, k2⟩
      · obtain ⟨k1, k2, k3⟩ := k
        cases k1
        have hc2 : M' (pa.getD (idx s.told n) 0) = some (.lst ((l ++ [(b', w')]).map boxD)) := by
          rw [k3 _ hdjp, hcell, he']
        have hdl : ((l ++ [(b', w')]).map boxD).dropLast = l.map boxD := by
          rw [List.map_append]
          exact List.dropLast_concat
        refine ⟨fun r M2 => r = .ok (.str tx) ∧ M2 = updM M' (pa.getD (idx s.told n) 0) (.lst (l.map boxD)), e_mcb (R1 := fun r M2 => r = .ok (boxD (b', w')) ∧ M2 = updM M' (pa.getD (idx s.told n) 0) (.lst (l.map boxD))) (e_mpop rcell hc2 ?_ ⟨rfl, by rw [hdl]⟩) (fun d M2 k => ?_) (fun C M2 k => nomatch k.1), fun d2 M2 k => ?_, fun C M2 k => nomatch k.1⟩
        · rw [List.length_map, List.length_append, List.length_singleton, List.map_append]
          have : l.length + 1 - 1 = (l.map boxD).length := by rw [List.length_map]; omega
          rw [this, List.getElem?_append_right (Nat.le_refl _), Nat.sub_self]
          rfl
        · obtain ⟨k1, rfl⟩ := k
          cases k1
          exact ⟨_, htx, rfl, rfl⟩
        · obtain ⟨k1, rfl⟩ := k
          cases k1
          refine ⟨_, d_eqS, by rw [decide_eq_true rfl], takeS s n b', rfl, ⟨k2.congr fun a ha => updM_ne (hxa a ha), ?_, full_take inv.full ok ht' he', inv.dj, fun m u hu p hp => ?_, ?_⟩, fun a ha => ?_⟩
          · have hd : (pileAt s n).dropLast = l := by rw [he', List.dropLast_concat]
            have := inv.own2 (M' := updM M' (pa.getD (idx s.told n) 0) (.lst (l.map boxD))) (q := l) ht' updM_same (fun a ha hne => by rw [updM_ne hne, k3 a (inv.dj a ha)])
            show OwnAt _ s.told pa (s.piles.set (idx s.told n) (pileAt s n).dropLast)
            rw [hd]
            exact this
          · have hu' : tri s m = some u := hu
            rw [pileAt_take ok ht' hu'] at hp
            split at hp
            · exact inv.bx n t ht' p ((List.dropLast_sublist _).subset hp)
            · exact inv.bx m u hu' p hp
          · exact Nat.le_trans (List.length_filter_le _ _) (Nat.le_succ_of_le inv.ly)
          · have a3 : a ∉ x :: L :: la := fun y => ha (by
              rcases List.mem_cons.mp y with y | y
              · exact y ▸ List.mem_cons_self
              · rcases List.mem_cons.mp y with y | y
                · exact y ▸ List.mem_cons_of_mem _ List.mem_cons_self
                · exact List.mem_cons_of_mem _ (List.mem_cons_of_mem _ (List.mem_append_left _ y)))
            have a4 : a ≠ pa.getD (idx s.told n) 0 := fun y => ha (y ▸ List.mem_cons_of_mem _ (List.mem_cons_of_mem _ (List.mem_append_right _ hpm)))
            rw [updM_ne a4]
            exact k3 a a3

theorem last_at {s : Stk} {n b : Str} (hne : pileAt s n ≠ []) : atI ((pileAt s n).map boxD) (-1) = some (boxD ((pileAt s n).getD ((pileAt s n).length - 1) (b, 0))) := by
  have hpos : 0 < (pileAt s n).length := List.length_pos_iff.mpr hne
  have e1 : ixN ((pileAt s n).map boxD).length (-1) = some ((pileAt s n).length - 1) := by
    unfold ixN
    rw [List.length_map, if_neg (by decide), if_pos (by omega)]
    congr 1
    omega
  unfold atI
  rw [e1]
  show ((pileAt s n).map boxD)[(pileAt s n).length - 1]? = _
  rw [List.getElem?_map, List.getElem?_eq_getElem (by omega), List.getD_eq_getElem?_getD, List.getElem?_eq_getElem (by omega)]
  rfl
theorem e_slT {K : PySem.W.Frag} {G : List Sl} {te : TE} {tl th : TO} {l : List D} {lo hi : Option Int} (h : EvD K te G (.tup l)) (h1 : EvP K tl G lo) (h2 : EvP K th G hi) (hn : ¬ (HT.sIx l.length 0 lo = 0 ∧ HT.sIx l.length l.length hi = l.length)) : EvD K (tSl (rSlT K) te tl th) G (.tup (cutD l lo hi)) := .mk fun {H0 F0 F H σ} E Q q =>
  h E _ fun v F1 H1 E1 f1 g1 n1 r1 => h1 E1 _ fun F2 H2 E2 f2 g2 n2 => h2 E2 _ fun F3 H3 E3 f3 g3 n3 => by
    cases r1 with
    | tup ha rs =>
      rename_i a xs
      refine ⟨_, _, rfl, st_of (g3 _ _ (g2 _ _ (E1.ef _ _ ha))), by rw [rs.length]; exact hn, fun p hp => ?_⟩
      have hF := ex_none E3.ef hp
      have ef := Ex.new (o := .tup (cutV xs lo hi)) hF
      exact q _ _ _ (E3.grow ef (Ex.new hp) (ex_upd_both E3.ef) (nw_upd hp (Nw.refl _ _))) (((f1.trans f2).trans f3).trans ef) (((g1.trans g2).trans g3).trans (Ex.new hp)) ((((n1.trans n2 g1).trans n3 (g1.trans g2))).trans (nw_upd hp (Nw.refl F3 H3)) ((g1.trans g2).trans g3)) (.tup upd_same (((cutD_rp rs lo hi).mono (f2.trans f3)).mono ef))
theorem nm_sm {ks : List Str} (h : ∀ k ∈ ks, nmS k = true) (hl : ks.length ≤ 20) : Sm 6 60003 (.lst (ks.map D.str)) := by
  refine (sm_lst (n := 0) (w := 60) (k := 20) (fun d hd => ?_) (by rw [List.length_map]; exact hl)).mono (by decide) (by decide)
  obtain ⟨k, hk, rfl⟩ := List.mem_map.mp hd
  exact sm_nm (h k hk)
theorem rd_l_right (K : PySem.W.Frag) (Z : CF K A) {ds : List D} {d : D} (h : R_l_right A ds d) : StD K (t_l_right K A) (args nm_l_right.length ds) (.rt d) := by
  obtain ⟨s, bs, c, rfl, ok, full, hbx, hbs, rfl⟩ := h
  have l0 := ok.ro.l0
  have l1 := ok.ro.l1
  have hl12 := hbs.l12
  have hll : (s.told.map rowD).length = s.told.length := List.length_map ..
  have a0 : 0 ≤ c / 7 % (s.told.length : Int) := Int.emod_nonneg _ (by omega)
  have a1 : c / 7 % (s.told.length : Int) < (s.told.length : Int) := Int.emod_lt_of_pos _ (by omega)
  have b0 : 0 ≤ c / 300 % 12 := Int.emod_nonneg _ (by decide)
  have b1 : c / 300 % 12 < 12 := Int.emod_lt_of_pos _ (by decide)
  have hmem := row0_mem (rs := s.told) (i := (c / 7 % (s.told.length : Int)).toNat) (by omega)
  obtain ⟨t', ht0⟩ := find_some_of hmem
  have hrow := ok.ro.ok _ hmem
  have hbn := hbs.nm _ (getD_in Str.empty bs (c / 300 % 12).toNat (by omega))
  have hfew : ∀ p ∈ s.piles, p.length ≤ 1000 := fun p hp => Nat.le_trans (ok.few p hp) (by decide)
  unfold t_l_right
  let G0 : List Sl := [.dat (stkD A.c_Stacks s), .dat (ownD s.told (s.piles.map pileD)), .dat (.lst (bs.map D.str)), .dat (.int c), .no, .no, .no, .no, .no, .no, .no, .no]
  show StD K _ G0 _
  refine st_seq (G1 := G0.set 4 (.dat (rowD (row0 s.told (c / 7 % (s.told.length : Int)).toNat)))) (st_asg (e_is (e_op (e_ownTold rfl) (e_is (e_op (e_op (e_var rfl) e_int (d_fdv (by decide) (by decide))) (e_cb (s_cons (e_ownTold rfl) s_nil) n_lenL) (d_mod (by omega))) (by rw [hll])) (d_ixLn a0 (by omega))) (by rw [getD_mapD rowD ("", 0, 0, 0) s.told _ (by omega)]; rfl)) g_name) ?_
  have htt : find s.told (row0 s.told (c / 7 % (s.told.length : Int)).toNat).1 = some (row0 s.told (c / 7 % (s.told.length : Int)).toNat).2 := by
    have hi : (c / 7 % (s.told.length : Int)).toNat < s.told.length := by omega
    refine (at_row ok.ro.nn (i := (c / 7 % (s.told.length : Int)).toNat) ?_).1
    unfold row0
    rw [List.getD_eq_getElem?_getD, List.getElem?_eq_getElem hi]
    rfl
  generalize row0 s.told (c / 7 % (s.told.length : Int)).toNat = r at htt hrow ⊢
  obtain ⟨n, t⟩ := r
  have ht : tri s n = some t := htt
  have hnm : nmS n = true := hrow.nm
  let G1 : List Sl := [.dat (stkD A.c_Stacks s), .dat (ownD s.told (s.piles.map pileD)), .dat (.lst (bs.map D.str)), .dat (.int c), .dat (rowD (n, t)), .no, .no, .no, .no, .no, .no, .no]
  have en : ∀ {G : List Sl}, G[4]? = some (.dat (rowD (n, t))) → EvD K (tOp (gIx K) (tVar 4) (tC (.int 0))) G (.str n) := fun h => e_op (e_var h) e_int (d_ixT (by rfl))
  let tl : D := .lst [.int t.1, .int t.2.1, .int t.2.2]
  refine st_seq (G1 := G1.set 5 (.dat tl)) (st_asg (e_share (o_lst (s_cons (e_methX (e_var rfl) rfl (s_cons (en rfl) s_nil) ⟨s, .str n, rfl, thing_nm hnm, ok.pl, .inr ⟨n, t, rfl, hnm, ht, rfl⟩⟩) (s_cons (e_methX (e_var rfl) rfl (s_cons (en rfl) s_nil) ⟨s, .str n, rfl, thing_nm hnm, ok.pl, .inr ⟨n, t, rfl, hnm, ht, rfl⟩⟩) (s_cons (e_methX (e_var rfl) rfl (s_cons (en rfl) s_nil) ⟨s, .str n, rfl, thing_nm hnm, ok.pl, .inr ⟨n, t, rfl, hnm, ht, rfl⟩⟩) s_nil))) (by show 3 ≤ 100000; decide))) g_name) ?_
  have p0 : 0 ≤ t.1 := hrow.p0
  have p1 : t.1 ≤ 1000000000000 := hrow.p1
  have h0 : 1 ≤ t.2.1 := hrow.h0
  have h1 : t.2.1 ≤ 20 := hrow.h1
  have w0 : 1 ≤ t.2.2 := hrow.w0
  have w1 : t.2.2 ≤ 1000000000000 := hrow.w1
  have smt : Sm 6 60003 tl := (sm_lst (n := 0) (w := 60) (k := 3) (.cons (sm_int (by omega)) (.cons (sm_int (by omega)) (.cons (sm_int (by omega)) .nil))) (by show 3 ≤ 3; decide)).mono (by decide) (by decide)
  obtain ⟨x1, hx1⟩ := n_show (K := K) smt
  obtain ⟨x2, hx2⟩ := n_show (K := K) (nm_sm (ks := srtS (s.told.map fun (r : Row) => r.1)) (fun k hk => by
    have := (srt_perm (s.told.map fun (r : Row) => r.1)).mem_iff.mp hk
    obtain ⟨r, hr, rfl⟩ := List.mem_map.mp this
    exact (ok.ro.ok r hr).nm) (by rw [(srt_perm _).length_eq, List.length_map]; exact l1))
  obtain ⟨x3, hx3⟩ := n_show (K := K) (pile_sm ok full hbx ht)
  refine st_pass (t_is (t_test (e_op (e_cb (s_cons (e_var rfl) s_nil) hx1) (e_cb (s_cons (e_share (o_cb (s_cons (e_slT (l := [.str n, .int t.1, .int t.2.1, .int t.2.2]) (e_var rfl) (p_some e_int) p_none (by show ¬ ((1 : Nat) = 0 ∧ (4 : Nat) = 4); decide)) s_nil) (n_listT (l := [.int t.1, .int t.2.1, .int t.2.2])))) s_nil) hx1) d_neS)) (by rw [decide_eq_true rfl]; rfl)) ?_
  let G2 : List Sl := [.dat (stkD A.c_Stacks s), .dat (ownD s.told (s.piles.map pileD)), .dat (.lst (bs.map D.str)), .dat (.int c), .dat (rowD (n, t)), .dat tl, .no, .no, .no, .no, .no, .no]
  refine st_seq (G1 := G2) (st_for (it_rng1 (n := 2) (s_cons e_int s_nil) (by decide)) (fun _ => G2) rfl (fun i => G2.set 6 (.dat (.int (i : Int)))) (fun i d hd => ?_) (fun i => .nx (((G2.set 6 (.dat (.int (i : Int)))).set 7 (.own (.lst ((srtS (s.told.map fun (r : Row) => r.1)).map D.str ++ [.str "more"])))).set 8 (.own (.lst ((pileAt s n).map boxD ++ [.str "more"]))))) (fun i hi _ => ?_) (fun i hi => .inl ⟨_, .inl rfl, Wk.keep (Wk.keep (Wk.keep (Wk.keep (Wk.keep (Wk.keep (Wk.drop (Wk.drop (Wk.drop (Wk.keep (Wk.keep (Wk.keep Wk.nil)))))))))))⟩) (fun _ => rfl)) ?_
  · obtain ⟨_, rfl⟩ := rg_get hd
    rw [Int.zero_add]
    exact g_name
  · let G3 : List Sl := [.dat (stkD A.c_Stacks s), .dat (ownD s.told (s.piles.map pileD)), .dat (.lst (bs.map D.str)), .dat (.int c), .dat (rowD (n, t)), .dat tl, .dat (.int (i : Int)), .own (.lst ((srtS (s.told.map fun (r : Row) => r.1)).map D.str)), .own (.lst ((pileAt s n).map boxD)), .no, .no, .no]
    refine st_seq (G1 := G3) (st_parO (by decide) (fun a w => ?_) (o_methO (e_var rfl) rfl s_nil ⟨s, rfl, l1, rfl⟩) (o_methO (e_var rfl) rfl (s_cons (en rfl) s_nil) ⟨s, n, t, rfl, hnm, ht, ok.pl, rfl⟩)) ?_
    · match a with
      | 0 | 1 | 2 | 3 | 4 | 5 | 6 | 7 | 8 | 9 | 10 | 11 => exact fun q => nomatch q
      | a + 12 => exact fun q => nomatch q
    have hsl : (srtS (s.told.map fun (r : Row) => r.1)).length ≤ 20 := by rw [(srt_perm _).length_eq, List.length_map]; exact l1
    have hpl := pile_len ok ht
    refine st_pass (t_is (t_or (x := false) (y := false) (t_is (t_peek (i := 7) (l := Ow.lst ((srtS (s.told.map fun (r : Row) => r.1)).map D.str)) rfl (t_test (e_op (e_cb (s_cons (e_var rfl) s_nil) hx2) (e_cb (s_cons (e_share (o_cb (s_cons (e_is (e_share (o_lcM (fun d => match d with | .tup (a :: _) => a | _ => .non) (it_list (e_ownTold rfl)) (by rw [hll]; omega) (fun d hd => ?_))) (b := .lst ((s.told.map fun (r : Row) => r.1).map D.str)) ?_) s_nil) (n_sortedL (by rw [List.length_map]; omega)))) s_nil) hx2) d_neS))) (by rw [decide_eq_true rfl]; rfl)) (fun _ => t_is (t_peek (i := 8) (l := Ow.lst ((pileAt s n).map boxD)) rfl (t_test (e_op (e_cb (s_cons (e_var rfl) s_nil) hx3) (e_cb (s_cons (e_dget (k := .inr n) (e_ownPiles rfl) (en rfl) (valE_own ok ht)) s_nil) hx3) d_neS))) (by rw [decide_eq_true rfl]; rfl))) rfl) ?_
    · obtain ⟨r, _, rfl⟩ := List.mem_map.mp hd
      rw [wipe1]
      exact e_op (e_var rfl) e_int (d_ixT (by rfl))
    · rw [List.map_map, List.map_map]
      rfl
    · exact st_seq (st_app (i := 7) rfl e_str (by rw [List.length_map]; omega)) (st_app (i := 8) rfl e_str (by rw [List.length_map]; omega))
  refine st_seq (G1 := G2.set 10 (.dat (.str (bs.getD (c / 300 % 12).toNat Str.empty)))) (st_asg (e_op (e_var rfl) (e_op (e_op (e_var rfl) e_int (d_fdv (by decide) (by decide))) e_int (d_mod (by decide))) (d_ixStr b0 (by omega))) g_name) ?_
  generalize bs.getD (c / 300 % 12).toNat Str.empty = b at hbn ⊢
  refine st_seq (st_asg (d := whD s.told s.piles b) (e_call (s_cons (e_var rfl) (s_cons (e_var rfl) s_nil)) ⟨s.told, s.piles, b, rfl, hfew, rfl⟩) g_name) ?_
  rcases wh_cases ok b with ⟨hw, _⟩ | ⟨m, u, hw, hu, hbm⟩
  · rw [hw]
    exact st_guard (x := true) (t_test (e_op (e_var rfl) e_none d_isN)) (fun _ => st_ret e_bl) (fun q => nomatch q)
  · rw [hw]
    refine st_guard (x := false) (t_test (e_op (e_var rfl) e_none d_isN)) (fun q => nomatch q) (fun _ => st_ret ?_)
    have hfl := (full.ly b m).mpr ⟨u, hu, hbm⟩
    have hmn := (ok.ro.ok _ (find_mem hu)).nm
    have hne : pileAt s m ≠ [] := fun q => by
      rw [q] at hbm
      cases hbm
    have htop : topOf s b m = decide ((((pileAt s m).getD ((pileAt s m).length - 1) (b, 0)).1) = b) := rfl
    obtain ⟨x4, hx4⟩ := n_show (K := K) (d := .lst [.str m, .bl (topOf s b m)]) ((sm_lst (n := 0) (w := 60) (k := 2) (.cons (sm_nm hmn) (.cons sm_bl .nil)) (by show 2 ≤ 2; decide)).mono (by decide) (by decide))
    refine e_is (e_op (e_cb (s_cons (e_share (o_lst (s_cons (e_methX (e_var rfl) rfl (s_cons (e_var rfl) s_nil) ⟨s, .str b, rfl, thing_nm hbn, ok, .inr ⟨b, m, rfl, hbn, hfl, rfl⟩⟩) (s_cons (e_methX (e_var rfl) rfl (s_cons (e_var rfl) s_nil) ⟨s, .str b, rfl, thing_nm hbn, ok, .inr ⟨b, m, rfl, hbn, hfl, rfl⟩⟩) s_nil)) (by show 2 ≤ 100000; decide))) s_nil) hx4) (e_cb (s_cons (e_share (o_lst (ds := [.str m, .bl (topOf s b m)]) (s_cons (e_var rfl) (s_cons (e_op (e_op (e_op (e_dget (k := .inr m) (e_ownPiles rfl) (e_var rfl) (valE_own ok hu)) (e_un e_int op1_neg) (d_ixL (last_at hne))) e_int (d_ixT (by rfl))) (e_var rfl) d_eqS) s_nil)) (by show 2 ≤ 100000; decide))) s_nil) hx4) d_eqS) (by rw [decide_eq_true rfl])

theorem m_forG {K : PySem.W.Frag} {M : Sto} {G : List Sl} {g : TG} {tu : TS} {P : Out → Sto → Prop} {wi : TI} {items : List D} (hi : ItD K wi G items) (J : Nat → List Sl → Sto → Prop) (hJ : J 0 G M) (T : List Sl → D → List Sl) (ht : ∀ i d G' M', items[i]? = some d → J i G' M' → TgM K g G' d (T G' d))
    (hb : ∀ i d G' M', items[i]? = some d → J i G' M' → StM K tu M' (T G' d) fun o M'' => (∃ C' C2, (o = .nx C' ∨ o = .ct C') ∧ Wk C' C2 ∧ J (i + 1) C2 M'') ∨ ((∃ d, o = .rt d) ∨ ∃ C X, o = .ex C X) ∧ P o M'') (hd : ∀ G' M', J items.length G' M' → P (.nx G') M') : StM K (tFor wi g tu) M G P := by
  refine ⟨?_⟩
  intro H0 F0 F H σ E En p
  refine hi En.en _ fun Jt F1 H1 E1 f1 g1 n1 wk => ?_
  obtain ⟨Gp, Y, w, hg, hy⟩ := wk.ex
  have En1 := En.withG E1 f1 g1 n1
  refine for_it w (fun i σ H => ∃ G' F' M', EnM K H0 F0 F' M' H σ G' ∧ Ex F1 F' ∧ J i G' M') ⟨G, F1, M, En1, Ex.refl _, hJ⟩ (fun i σ H _ ⟨G', F', M', E', e', _⟩ => hg H (e'.trans E'.en.ef)) ?_ ?_
  · rintro i x σ2 H2 H3 hlt ⟨G', F', M', E', e', hj⟩ y
    obtain ⟨F2, d, k1, k2, k3, k4, hd2, r2⟩ := hy i H2 x H3 F' e' E'.en.ef y
    have E3 := E'.grow k1 k2 k3 k4
    refine (ht i d G' M' hd2 hj).run E3 r2 _ fun σ4 E4 => ?_
    refine (hb i d G' M' hd2 hj).run E4 fun o M'' k => ?_
    rcases k with ⟨C', C2, ho, hw, hj'⟩ | ⟨ho, k2'⟩
    · rcases ho with rfl | rfl
      · exact fun σ F'' H'' E'' f'' => ⟨C2, F'', M'', E''.weak hw, (e'.trans k1).trans f'', hj'⟩
      · exact fun σ F'' H'' E'' f'' => ⟨C2, F'', M'', E''.weak hw, (e'.trans k1).trans f'', hj'⟩
    · have := p _ _ k2'
      rcases ho with ⟨d', rfl⟩ | ⟨C', X', rfl⟩
      · exact this
      · exact this
  · rintro σ2 H2 ⟨G', F', M', E', e', hj⟩
    exact p _ _ (hd G' M' hj) σ2 F' H2 E' (f1.trans e')
/-- what was left behind -/
structure PastE (A : XA) (M : Sto) (rs : List Row) (fp : List Addr) (e : D) : Prop where
  ex : ∃ x L la pa s, e = .tup [.ptr x, ownD rs (pa.map D.ptr)] ∧ StkAt A.c_Stacks M x L la s ∧ OwnAt M s.told pa s.piles ∧ StkFull s ∧ (∀ n t, tri s n = some t → ∀ p ∈ pileAt s n, 0 ≤ p.2 ∧ p.2 ≤ 1000000000000) ∧ s.told = rs ∧ ∀ a ∈ x :: L :: (la ++ pa), M a ≠ none ∧ a ∉ fp
theorem stk_some {C : Addr} {M : Sto} {x L : Addr} {la : List Addr} {s : Stk} (h : StkAt C M x L la s) : ∀ a ∈ x :: L :: la, M a ≠ none := fun a ha q => by
  rcases List.mem_cons.mp ha with y | y
  · rw [y, h.ins] at q
    cases q
  · rcases List.mem_cons.mp y with y | y
    · rw [y, h.lyi] at q
      cases q
    · obtain ⟨i, hi, e⟩ := List.getElem_of_mem y
      have := h.pil i hi
      rw [List.getD_eq_getElem?_getD, List.getElem?_eq_getElem hi] at this
      have e2 : la[i] = a := e
      rw [show (some la[i]).getD 0 = la[i] from rfl, e2, q] at this
      cases this
theorem own_some {M : Sto} {rs : List Row} {pa : List Addr} {ps : List (List (Str × Int))} (h : OwnAt M rs pa ps) : ∀ a ∈ pa, M a ≠ none := fun a ha q => by
  obtain ⟨i, hi, e⟩ := List.getElem_of_mem ha
  have := h.pil i hi
  rw [List.getD_eq_getElem?_getD, List.getElem?_eq_getElem hi] at this
  have e2 : pa[i] = a := e
  rw [show (some pa[i]).getD 0 = pa[i] from rfl, e2, q] at this
  cases this
theorem own_congr {M M' : Sto} {rs : List Row} {pa : List Addr} {ps : List (List (Str × Int))} (h : OwnAt M rs pa ps) (e : ∀ a ∈ pa, M' a = M a) : OwnAt M' rs pa ps := ⟨h.ll, h.lp, h.nd, fun i hi => by rw [e _ (getD_memA hi)]; exact h.pil i hi⟩
theorem PastE.go {A : XA} {M M' : Sto} {rs : List Row} {fp fp' : List Addr} {e : D} (h : PastE A M rs fp e) (hM : ∀ a, M a ≠ none → a ∉ fp → M' a = M a) (hf : ∀ a, M a ≠ none → a ∉ fp → a ∉ fp') : PastE A M' rs fp' e := by
  obtain ⟨x, L, la, pa, s, h1, h2, h3, h4, h5, h6, h7⟩ := h.ex
  have hm : ∀ a ∈ x :: L :: (la ++ pa), M' a = M a := fun a ha => hM a (h7 a ha).1 (h7 a ha).2
  refine ⟨x, L, la, pa, s, h1, h2.congr fun a ha => hm a ?_, own_congr h3 fun a ha => hm a (List.mem_cons_of_mem _ (List.mem_cons_of_mem _ (List.mem_append_right _ ha))), h4, h5, h6, fun a ha => ⟨by rw [hm a ha]; exact (h7 a ha).1, hf a (h7 a ha).1 (h7 a ha).2⟩⟩
  rcases List.mem_cons.mp ha with y | y
  · exact y ▸ List.mem_cons_self
  · rcases List.mem_cons.mp y with y | y
    · exact y ▸ List.mem_cons_of_mem _ List.mem_cons_self
    · exact List.mem_cons_of_mem _ (List.mem_cons_of_mem _ (List.mem_append_left _ y))

def lawG (ns : List Int) (rs : List Row) (bs : List Str) (x : Addr) (pa : List Addr) (past : List D) : List Sl := [.dat (.scr ns), .dat (.lst (rs.map rowD)), .dat (.lst (bs.map D.str)), .no, .dat (.ptr x), .dat (ownD rs (pa.map D.ptr)), .own (.lst past), .no, .no, .no, .no, .no, .no]
def lawJ (A : XA) (ns : List Int) (rs : List Row) (bs : List Str) (i : Nat) (G : List Sl) (M : Sto) : Prop := ∃ x L la pa s past, G = lawG ns rs bs x pa past ∧ InvL A M x L la pa s i ∧ s.told = rs ∧ past.length ≤ i ∧ ∀ e ∈ past, PastE A M rs (x :: L :: (la ++ pa)) e
theorem law_loop (K : PySem.W.Frag) (Z : CF K A) {ns : List Int} {rs : List Row} {bs : List Str} (hl : ns.length ≤ 63) (hbs : BxOk bs) (ok : RowsOk rs) {i : Nat} {M : Sto} {x L : Addr} {la pa : List Addr} {s : Stk} {past : List D} (inv : InvL A M x L la pa s i) (hrs : s.told = rs) (hi : i ≤ 63) (hpl : past.length ≤ i) (hpast : ∀ e ∈ past, PastE A M rs (x :: L :: (la ++ pa)) e) {P : Out → Sto → Prop} :
    StM K (tSeq (tAsg (tCall (sp_l_number K A) [] E0 (tCons (tVar 0) (tCons (tVar 7) tNil))) (gName 8))
  (tSeq (tIfS (tOr (tNot (tB (tCall (sp_l_deed K A) [] E0 (tCons (tVar 4) (tCons (tVar 5) (tCons (tVar 2) (tCons (tVar 8) tNil))))))) (tNot (tB (tCall (sp_l_right K A) [] E0 (tCons (tVar 4) (tCons (tVar 5) (tCons (tVar 2) (tCons (tVar 8) tNil)))))))) (tRet (tC (.bl false))) tNext)
  (tIfS (tTest (tOp (gEq K) (tOp (gMod) (tOp (gFdv) (tVar 8) (tC (.int 5))) (tC (.int 9))) (tC (.int 1)))) (tSeq (tAsg (tMeth A.c_Stacks "copied" (sp_Stacks_copied K A) [] E0 (tVar 4) tNil) (gName 9))
  (tSeq (tDrop (tBM K "list" rAppend (tVar 6) (tCons (tTup (tCons (tVar 4) (tCons (tCall (sp_l_kept K A) [] E0 (tCons (tVar 5) tNil)) tNil))) tNil)))
  (tAsg (tVar 9) (gName 4)))) tNext))) M ((lawG ns rs bs x pa past).set 7 (.dat (.int (i : Int)))) fun o M'' => (∃ C' C2, (o = .nx C' ∨ o = .ct C') ∧ Wk C' C2 ∧ lawJ A ns rs bs (i + 1) C2 M'') ∨ ((∃ d, o = .rt d) ∨ ∃ C X, o = .ex C X) ∧ P o M'' := by
  subst hrs
  have wk : ∀ {a b c d : Sl} {x : Addr} {pa : List Addr} {past : List D}, Wk [.dat (.scr ns), .dat (.lst (s.told.map rowD)), .dat (.lst (bs.map D.str)), .no, .dat (.ptr x), .dat (ownD s.told (pa.map D.ptr)), .own (.lst past), a, b, c, d, .no, .no] (lawG ns s.told bs x pa past) := Wk.keep (Wk.keep (Wk.keep (Wk.keep (Wk.keep (Wk.keep (Wk.keep (Wk.drop (Wk.drop (Wk.drop (Wk.drop (Wk.keep (Wk.keep Wk.nil))))))))))))
  let G1 : List Sl := [.dat (.scr ns), .dat (.lst (s.told.map rowD)), .dat (.lst (bs.map D.str)), .no, .dat (.ptr x), .dat (ownD s.told (pa.map D.ptr)), .own (.lst past), .dat (.int (i : Int)), .dat (.int (nb ns (i : Int))), .no, .no, .no, .no]
  refine m_seq1 (M1 := M) (G1 := G1) (m_asg (r_pure (e_nb rfl (e_var rfl) (by omega) hl)) ⟨rfl, rfl⟩) ?_
  obtain ⟨c, hc⟩ : ∃ c, nb ns (i : Int) = c := ⟨_, rfl⟩
  let J1 : Sto → Prop := fun M' => ∃ s', s'.told = s.told ∧ InvL A M' x L la pa s' (i + 1) ∧ Same M M' (x :: L :: (la ++ pa))
  refine m_passM (R2 := fun b M' => b = false ∧ J1 M') (tm_orF (R2 := fun b M' => b = false ∧ J1 M') (tm_not (R2 := fun b M' => b = true ∧ J1 M') (tm_B (X := E0) (R1 := fun r M' => r = .ok (.bl true) ∧ J1 M') (e_mcall (s_pure (s_cons (e_var rfl) (s_cons (e_var rfl) (s_cons (e_var rfl) (s_cons (e_var rfl) s_nil))))) ⟨x, L, la, pa, s, i, bs, nb ns (i : Int), rfl, inv, by omega, hbs, rfl⟩ (fun r M' k => k)) (fun C M' k => nomatch k.1) (fun d M' k => by
      obtain ⟨k1, k2⟩ := k
      cases k1
      exact ⟨true, rfl, rfl, k2⟩)) (fun b M' k => ⟨by rw [k.1]; rfl, k.2⟩)) (fun b M' k => ⟨k.1, ?_⟩)) (fun b M' k => k.1) (fun M' k => ?_)
  · obtain ⟨_, s', e1, inv', sm⟩ := k
    have vw : VwG M' G1 ((G1.set 4 (.dat (stkD A.c_Stacks s'))).set 5 (.dat (ownD s'.told (s'.piles.map pileD)))) := .keep (.keep (.keep (.keep (.dat inv'.st.vw (.dat (by rw [← e1]; exact own_vw inv'.own) (.keep (.keep (.keep (.keep (.keep (.keep (.keep .nil))))))))))))
    exact tm_ofF (tr_not (x := true) (t_view vw (t_B (e_call (s_cons (e_var rfl) (s_cons (e_var rfl) (s_cons (e_var rfl) (s_cons (e_var rfl) s_nil)))) ⟨s', bs, nb ns (i : Int), rfl, inv'.st.ok, inv'.full, inv'.bx, hbs, rfl⟩)))) ⟨rfl, s', e1, inv', sm⟩
  · obtain ⟨_, s', e1, inv', sm⟩ := k
    have hpast' : ∀ e ∈ past, PastE A M' s.told (x :: L :: (la ++ pa)) e := fun e he => (hpast e he).go (fun a _ hn => sm a hn) (fun a _ hn => hn)
    refine m_if (x := decide (nb ns (i : Int) / 5 % 9 = 1)) (t_pure (t_test (e_op (e_op (e_op (e_var rfl) e_int (d_fdv (by decide) (by decide))) e_int (d_mod (by decide))) e_int d_eqI))) (fun _ => ?_) (fun _ => m_next (.inl ⟨_, _, .inl rfl, wk, x, L, la, pa, s', past, rfl, inv', e1, by omega, hpast'⟩))
    refine m_seq (P1 := fun o M2 => ∃ x2 L2 la2, o = .nx (G1.set 9 (.dat (.ptr x2))) ∧ StkAt A.c_Stacks M2 x2 L2 la2 s' ∧ Ext M' M2 ∧ ∀ a ∈ x2 :: L2 :: la2, M' a = none) (m_asgM (X := E0) (R := copP A M' s') (e_mmeth (r_pure (e_var rfl)) inv'.st.ins rfl sr_nil ⟨x, L, la, s', rfl, inv'.st, rfl⟩ (fun r M' k => k)) (fun d => G1.set 9 (.dat d)) (fun d M2 k => gm_name) (fun d M2 k => ?_) (fun C M2 k => by obtain ⟨_, _, _, k1, _⟩ := k; cases k1)) (fun G2 M2 k => ?_) (fun o M2 k hn => by obtain ⟨_, _, _, k1, _⟩ := k; exact absurd k1 (hn _))
    · obtain ⟨x2, L2, la2, k1, k2⟩ := k
      cases k1
      exact ⟨x2, L2, la2, rfl, k2⟩
    obtain ⟨x2, L2, la2, k1, hat2, hext2, hfr2⟩ := k
    cases k1
    have extS : ∀ {Ma Mb : Sto}, Ext Ma Mb → ∀ a, Ma a ≠ none → Mb a = Ma a := fun {Ma Mb} e a h => by
      cases q : Ma a with
      | none => exact absurd q h
      | some n => exact e a n q
    have hown2 : OwnAt M2 s'.told pa s'.piles := own_congr inv'.own fun a ha => extS hext2 a (own_some inv'.own a ha)
    have hst2 : StkAt A.c_Stacks M2 x L la s' := inv'.st.ext hext2
    have okr : RowsOk s'.told := inv'.st.ok.ro
    let R3 : Res → Sto → Prop := fun r M3 => ∃ pa2, r = .ok (.tup [.ptr x, ownD s'.told (pa2.map D.ptr)]) ∧ OwnAt M3 s'.told pa2 s'.piles ∧ Ext M2 M3 ∧ ∀ a ∈ pa2, M2 a = none
    refine m_seq (P1 := fun o M3 => ∃ pa2, o = .nx ((G1.set 9 (.dat (.ptr x2))).set 6 (.own (.lst (past ++ [.tup [.ptr x, ownD s'.told (pa2.map D.ptr)]])))) ∧ OwnAt M3 s'.told pa2 s'.piles ∧ Ext M2 M3 ∧ ∀ a ∈ pa2, M2 a = none) (m_appO (i := 6) (X := E0) (R1 := R3) rfl (e_mtup (R2 := fun ds M3 => ∃ pa2, ds = [.ptr x, ownD s'.told (pa2.map D.ptr)] ∧ OwnAt M3 s'.told pa2 s'.piles ∧ Ext M2 M3 ∧ ∀ a ∈ pa2, M2 a = none) (sm_cons (X := E0) (R1 := fun r M3 => r = .ok (.ptr x) ∧ M3 = M2) (e_mr (r_pure (e_var rfl)) ⟨rfl, rfl⟩) (fun C M3 k => nomatch k.1) (fun d M3 k => ?_)) (fun ds M3 k => by obtain ⟨_, k1, _⟩ := k; rw [k1]; show 2 ≤ 100000; decide) (fun ds M3 k => by obtain ⟨pa2, k1, k2⟩ := k; exact ⟨pa2, by rw [k1], k2⟩)) (by omega) (fun d M3 k => ?_) (fun C M3 k => by obtain ⟨_, k1, _⟩ := k; cases k1)) (fun G3 M3 k => ?_) (fun o M3 k hn => by obtain ⟨_, k1, _⟩ := k; exact absurd k1 (hn _))
    · obtain ⟨k1, k2⟩ := k
      cases k1
      rw [k2]
      refine sm_cons (X := E0) (R1 := ownP M2 s'.told s'.piles) (e_mcall (s_pure (s_cons (e_is (e_var rfl) (by rw [e1])) s_nil)) ⟨s'.told, pa, s'.piles, rfl, okr, hown2, rfl⟩ (fun r M3 k => k)) (fun C M3 k => by obtain ⟨_, k1, _⟩ := k; cases k1) (fun d M3 k => ?_)
      obtain ⟨pa2, k1, k3⟩ := k
      cases k1
      exact sm_nil ⟨pa2, rfl, k3⟩
    · obtain ⟨pa2, k1, k2⟩ := k
      cases k1
      exact ⟨pa2, rfl, k2⟩
    obtain ⟨pa2, k1, hown3, hext3, hfr3⟩ := k
    cases k1
    refine m_asg (r_pure (e_var rfl)) (.inl ⟨_, _, .inl rfl, wk, x2, L2, la2, pa, s', past ++ [.tup [.ptr x, ownD s'.told (pa2.map D.ptr)]], rfl, ⟨hat2.ext hext3, own_congr hown2 fun a ha => extS hext3 a (own_some hown2 a ha), inv'.full, fun a ha q => own_some inv'.own a ha (hfr2 a q), inv'.bx, inv'.ly⟩, e1, ?_, fun e he => ?_⟩)
    · rw [List.length_append]
      show past.length + 1 ≤ i + 1
      omega
    · have e13 := hext2.trans hext3
      have hfp : ∀ a, M' a ≠ none → a ∉ pa → a ∉ x2 :: L2 :: (la2 ++ pa) := fun a h hp q => by
        rcases List.mem_cons.mp q with y | y
        · exact h (hfr2 a (y ▸ List.mem_cons_self))
        · rcases List.mem_cons.mp y with y | y
          · exact h (hfr2 a (y ▸ List.mem_cons_of_mem _ List.mem_cons_self))
          · rcases List.mem_append.mp y with y | y
            · exact h (hfr2 a (List.mem_cons_of_mem _ (List.mem_cons_of_mem _ y)))
            · exact hp y
      rcases List.mem_append.mp he with y | y
      · refine (hpast' e y).go (fun a h _ => extS e13 a h) (fun a h hn => hfp a h fun q => hn (List.mem_cons_of_mem _ (List.mem_cons_of_mem _ (List.mem_append_right _ q))))
      · rw [List.mem_singleton.mp y]
        refine ⟨x, L, la, pa2, s', by rw [e1], hst2.ext hext3, hown3, inv'.full, inv'.bx, e1, fun a ha => ?_⟩
        have hcase : a ∈ x :: L :: la ∨ a ∈ pa2 := by
          rcases List.mem_cons.mp ha with y | y
          · exact .inl (y ▸ List.mem_cons_self)
          · rcases List.mem_cons.mp y with y | y
            · exact .inl (y ▸ List.mem_cons_of_mem _ List.mem_cons_self)
            · rcases List.mem_append.mp y with y | y
              · exact .inl (List.mem_cons_of_mem _ (List.mem_cons_of_mem _ y))
              · exact .inr y
        rcases hcase with z | z
        · have h1 := stk_some inv'.st a z
          exact ⟨by rw [extS e13 a h1]; exact h1, hfp a h1 fun q => inv'.dj a q z⟩
        · refine ⟨own_some hown3 a z, fun q => ?_⟩
          have h2 := hfr3 a z
          rcases List.mem_cons.mp q with y | y
          · exact stk_some hat2 a (y ▸ List.mem_cons_self) h2
          · rcases List.mem_cons.mp y with y | y
            · exact stk_some hat2 a (y ▸ List.mem_cons_of_mem _ List.mem_cons_self) h2
            · rcases List.mem_append.mp y with y | y
              · exact stk_some hat2 a (List.mem_cons_of_mem _ (List.mem_cons_of_mem _ y)) h2
              · exact own_some hown2 a y h2

theorem rd_law (K : PySem.W.Frag) (Z : CF K A) {ds : List D} {M : Sto} {P : Res → Sto → Prop} (E : XK) (h : R_law ds M P) : StM K (t_law K A) M (args nm_law.length ds) (OutP P E) := by
  obtain ⟨ns, rfl, hl, rfl, rfl⟩ := h
  unfold t_law
  have ok := rowsL_ok ns 100
  generalize hrs : rowsL ns 100 = rs at ok
  have l0 := ok.l0
  have l1 := ok.l1
  have hll : (rs.map rowD).length = rs.length := List.length_map ..
  obtain ⟨bs, hbe⟩ : ∃ bs, nmsL (nb ns 90) 12 = bs := ⟨_, rfl⟩
  have hbs : BxOk bs := by
    rw [← hbe]
    exact ⟨by unfold nmsL; rw [List.length_map, List.length_range], fun b hb => by
      unfold nmsL at hb
      obtain ⟨i, _, rfl⟩ := List.mem_map.mp hb
      exact nm1_is _ _⟩
  let M0 : Sto := fun _ => none
  let G1 : List Sl := [.dat (.scr ns), .dat (.lst (rs.map rowD)), .no, .no, .no, .no, .no, .no, .no, .no, .no, .no, .no]
  refine m_seq1 (M1 := M0) (G1 := G1) (m_asg (r_pure (e_is (e_call (s_cons (e_var rfl) (s_cons e_int s_nil)) ⟨ns, 100, rfl, by decide, hl, rfl⟩) (by rw [hrs]))) ⟨rfl, rfl⟩) ?_
  refine m_seq1 (M1 := M0) (G1 := G1.set 2 (.dat (.lst (bs.map D.str)))) (m_asg (r_pure (e_is (e_call (s_cons (e_nb rfl e_int (by decide) hl) (s_cons e_int s_nil)) ⟨nb ns 90, 12, rfl, by decide, rfl⟩) (by rw [← hbe]; rfl))) ⟨rfl, rfl⟩) ?_
  let G3 : List Sl := [.dat (.scr ns), .dat (.lst (rs.map rowD)), .dat (.lst (bs.map D.str)), .own (.lst (rs.map rowD)), .no, .no, .no, .no, .no, .no, .no, .no, .no]
  refine m_seq1 (M1 := M0) (G1 := G3) (m_asgO (o_pure (o_cb (s_cons (e_var rfl) s_nil) n_listL)) ⟨rfl, rfl⟩) ?_
  refine m_seq (P1 := fun o M' => ∃ x L la, o = .nx (G3.set 4 (.dat (.ptr x))) ∧ StkAt A.c_Stacks M' x L la (newS rs)) (m_lendMake (X := E0) (i := 3) (j := 4) (by decide) rfl (fun n w hn => ?_) (fun w q => nomatch q) (fun x hx => ⟨_, .inl ⟨rs, rfl, ok, rfl⟩, fun d M' k => ?_, fun C M' k => nomatch k.1⟩)) (fun G4 M1 k => ?_) (fun o M1 k hn => by obtain ⟨_, _, _, k1, _⟩ := k; exact absurd k1 (hn _))
  · match n, hn with
    | 3, hn => exact absurd rfl hn
    | 0, _ | 1, _ | 2, _ | 4, _ | 5, _ | 6, _ | 7, _ | 8, _ | 9, _ | 10, _ | 11, _ | 12, _ => exact fun q => nomatch q
    | n + 13, _ => exact fun q => nomatch q
  · obtain ⟨_, L, la, hat, _, _⟩ := k
    refine ⟨fun a => if a ∈ x :: L :: la then M' a else none, fun a n q => ?_, x, L, la, rfl, hat.congr fun a ha => if_pos ha⟩
    by_cases ha : a ∈ x :: L :: la
    · have q' : M' a = some n := by
        have : (if a ∈ x :: L :: la then M' a else none) = some n := q
        rw [if_pos ha] at this
        exact this
      refine ⟨q', ?_⟩
      rcases List.mem_cons.mp ha with y | y
      · rw [y, hat.ins] at q'
        cases q'
        refine nlA_of fun d hd => ?_
        simp only [stkFs, List.map_cons, List.map_nil, List.mem_cons, List.not_mem_nil, or_false] at hd
        rcases hd with rfl | rfl | rfl
        · show nlK (toldE (newS rs)) = true
          rw [nlK_map]
          refine nlA_of fun d hd => ?_
          obtain ⟨p, hp, rfl⟩ := List.mem_map.mp hd
          unfold toldE at hp
          obtain ⟨r, _, rfl⟩ := List.mem_map.mp hp
          rfl
        · show nlK (pilesE (newS rs) (la.map D.ptr)) = true
          rw [nlK_map]
          refine nlA_of fun d hd => ?_
          obtain ⟨p, hp, rfl⟩ := List.mem_map.mp hd
          unfold pilesE at hp
          obtain ⟨a', _, e⟩ := List.mem_map.mp (List.of_mem_zip hp).2
          rw [← e]
          rfl
        · rfl
      · rcases List.mem_cons.mp y with y | y
        · rw [y, hat.lyi] at q'
          cases q'
          rfl
        · obtain ⟨i, hi, e⟩ := List.getElem_of_mem y
          have hp := hat.pil i hi
          rw [List.getD_eq_getElem?_getD, List.getElem?_eq_getElem hi] at hp
          have e2 : la[i] = a := e
          rw [show (some la[i]).getD 0 = la[i] from rfl, e2, q'] at hp
          cases hp
          refine nlA_of fun d hd => ?_
          obtain ⟨p, _, rfl⟩ := List.mem_map.mp hd
          rfl
    · have : (if a ∈ x :: L :: la then M' a else none) = some n := q
      rw [if_neg ha] at this
      cases this
  obtain ⟨x, L, la, k1, hat⟩ := k
  cases k1
  refine m_seq1 (M1 := M1) (G1 := (G3.set 4 (.dat (.ptr x))).set 3 (.own (.lst []))) (m_lift (st_clear rfl) (fun _ _ q => nomatch q) ⟨rfl, rfl⟩) ?_
  let G5 : List Sl := [.dat (.scr ns), .dat (.lst (rs.map rowD)), .dat (.lst (bs.map D.str)), .no, .dat (.ptr x), .no, .no, .no, .no, .no, .no, .no, .no]
  refine m_from (G1 := G5) ?_ (Wk.keep (Wk.keep (Wk.keep (Wk.drop (Wk.keep (Wk.keep (Wk.keep (Wk.keep (Wk.keep (Wk.keep (Wk.keep (Wk.keep (Wk.keep Wk.nil)))))))))))))
  refine m_seq (P1 := fun o M2 => ∃ pa, o = .nx (G5.set 5 (.dat (ownD rs (pa.map D.ptr)))) ∧ OwnAt M2 rs pa (rs.map fun _ => []) ∧ Ext M1 M2 ∧ ∀ a ∈ pa, M1 a = none) (m_asgM (X := E0) (R := ownP M1 rs (rs.map fun _ => [])) (e_mcall (s_pure (s_cons (e_var rfl) s_nil)) ⟨rs, rfl, ok, rfl⟩ (fun r M' k => k)) (fun d => G5.set 5 (.dat d)) (fun d M2 k => gm_name) (fun d M2 k => by obtain ⟨pa, k1, k2⟩ := k; cases k1; exact ⟨pa, rfl, k2⟩) (fun C M2 k => by obtain ⟨_, k1, _⟩ := k; cases k1)) (fun G6 M2 k => ?_) (fun o M2 k hn => by obtain ⟨_, k1, _⟩ := k; exact absurd k1 (hn _))
  obtain ⟨pa, k1, hown, hext, hfr⟩ := k
  cases k1
  have hat2 := hat.ext hext
  refine m_seq1 (M1 := M2) (G1 := lawG ns rs bs x pa []) (m_asgO (o_pure (o_lst s_nil (by show 0 ≤ 100000; decide))) ⟨rfl, rfl⟩) ?_
  have hnil : ∀ n t, tri (newS rs) n = some t → ∀ p ∈ pileAt (newS rs) n, 0 ≤ p.2 ∧ p.2 ≤ 1000000000000 := fun n t _ p hp => by
    have : pileAt (newS rs) n = [] := by
      unfold pileAt
      show (rs.map fun _ => ([] : List (Str × Int))).getD (idx rs n) [] = []
      rw [List.getD_eq_getElem?_getD, List.getElem?_map]
      cases rs[idx rs n]? <;> rfl
    rw [this] at hp
    cases hp
  refine m_seq (P1 := fun o M' => ∃ i G', o = .nx G' ∧ lawJ A ns rs bs i G' M' ∧ i ≤ 64) (m_forG (it_rng1 (n := 1 + min 63 (ns.length : Int)) (s_cons (e_op e_int (e_cb (s_cons e_int (s_cons (e_cb (s_cons (e_var rfl) s_nil) n_lenR) s_nil)) n_min2) d_addI) s_nil) (by omega)) (lawJ A ns rs bs) ⟨x, L, la, pa, newS rs, [], rfl, ⟨hat2, hown, full_new, fun a ha q => stk_some hat a q (hfr a ha), hnil, Nat.le_refl 0⟩, rfl, Nat.le_refl 0, fun e he => nomatch he⟩ (fun G' d => G'.set 7 (.dat d)) (fun i d G' M' _ _ => gm_name) (fun i d G' M' hd hj => ?_) (fun G' M' hj => ⟨_, G', rfl, hj, by rw [rg_len]; omega⟩)) (fun G7 M3 k => ?_) (fun o M3 k hn => by obtain ⟨_, _, k1, _⟩ := k; exact absurd k1 (hn _))
  · obtain ⟨hi, rfl⟩ := rg_get hd
    rw [Int.zero_add]
    obtain ⟨x, L, la, pa, s, past, rfl, inv, e1, hp1, hp2⟩ := hj
    exact law_loop K Z hl hbs ok inv e1 (by omega) hp1 hp2
  obtain ⟨i0, G', k1, ⟨x, L, la, pa, s, past, rfl, inv, e1, hp1, hp2⟩, hi64⟩ := k
  cases k1
  subst e1
  refine m_freezeO (i := 6) rfl ?_
  let G8 : List Sl := [.dat (.scr ns), .dat (.lst (s.told.map rowD)), .dat (.lst (bs.map D.str)), .no, .dat (.ptr x), .dat (ownD s.told (pa.map D.ptr)), .dat (.lst past), .no, .no, .no, .no, .no, .no]
  show StM K _ M3 G8 _
  have n12 : ∀ n t, tri s n = some t → nmS n = true := fun n t h => (ok.ok _ (find_mem h)).nm
  refine m_seq1 (M1 := M3) (G1 := G8) (m_for (it_enum (s_cons (e_var rfl) s_nil)) (fun _ => G8) (fun _ M' => M' = M3) rfl rfl (fun i => ((G8.set 7 (.dat (.int (i : Int)))).set 9 (.dat (pfst (past.getD i .non)))).set 10 (.dat (psnd (past.getD i .non)))) (fun i d hd => ?_) (fun i M' hi hM => ?_) (fun M' hM => ⟨rfl, hM⟩)) ?_
  · unfold enumD at hd
    rw [List.getElem?_map] at hd
    have hi : i < past.length := by
      by_cases h : i < past.length
      · exact h
      · rw [List.getElem?_eq_none (by rw [List.length_range]; omega)] at hd
        cases hd
    rw [List.getElem?_range hi] at hd
    cases hd
    have he := hp2 _ (getD_in D.non past i hi)
    obtain ⟨x', L', la', pa', s', e, _⟩ := he.ex
    show TgM K _ _ (D.tup [.int (i : Int), past.getD i .non]) _
    rw [e]
    exact gm_tup (gms_cons gm_name (gms_cons (gm_tup (gms_cons gm_name (gms_cons gm_name gms_nil)) rfl) gms_nil)) rfl
  · subst hM
    have hi' : i < past.length := by
      unfold enumD at hi
      rw [List.length_map, List.length_range] at hi
      exact hi
    have he := hp2 _ (getD_in D.non past i hi')
    obtain ⟨x', L', la', pa', s', e, h1, h2, h3, h4, h5, _⟩ := he.ex
    rw [e]
    let G9 : List Sl := [.dat (.scr ns), .dat (.lst (s.told.map rowD)), .dat (.lst (bs.map D.str)), .no, .dat (.ptr x), .dat (ownD s.told (pa.map D.ptr)), .dat (.lst past), .dat (.int (i : Int)), .no, .dat (.ptr x'), .dat (ownD s.told (pa'.map D.ptr)), .no, .no]
    let Gv : List Sl := (G9.set 9 (.dat (stkD A.c_Stacks s'))).set 10 (.dat (ownD s'.told (s'.piles.map pileD)))
    have vw : VwG M' G9 Gv := .keep (.keep (.keep (.keep (.keep (.keep (.keep (.keep (.keep (.dat h1.vw (.dat (by rw [← h5]; exact own_vw h2) (.keep (.keep .nil))))))))))))
    have tt : EvTt K (tNot (tB (tCB (rAll K) (tCons (tLc (iRng1 (tCons (tCB (Cy.rLen K) (tCons (tVar 1) tNil)) tNil)) (gName 11) tYes (tCall (sp_l_right K A) [] E0 (tCons (tVar 9) (tCons (tVar 10) (tCons (tVar 2) (tCons (tOp (gAdd K) (tOp (gMul) (tC (.int 7)) (tVar 11)) (tOp (gMul) (tOp (gMul) (tC (.int 300)) (tC (.int 7))) (tVar 7))) tNil))))) [11]) tNil)))) Gv false := by
      refine t_is (t_not (t_B (e_cb (s_cons (e_is (e_share (o_lcM (fun _ => D.bl true) (it_rng1 (n := (s.told.length : Int)) (s_cons (e_is (e_cb (s_cons (e_var rfl) s_nil) n_lenL) (by rw [hll])) s_nil) (by omega)) (by rw [rg_len]; omega) (fun d hd => ?_))) (b := .lst (((rngD 0 (s.told.length : Int).toNat).map fun _ => true).map D.bl)) (by rw [List.map_map]; rfl)) s_nil) n_all))) ?_
      · unfold rngD at hd
        obtain ⟨j, hj, rfl⟩ := List.mem_map.mp hd
        rw [wipe1]
        exact e_call (s_cons (e_var rfl) (s_cons (e_var rfl) (s_cons (e_var rfl) (s_cons (e_op (e_op e_int (e_var rfl) (d_mulI (Or.inl (by decide)))) (e_op (e_op e_int e_int (d_mulI (Or.inl (by decide)))) (e_var rfl) (d_mulI (Or.inl (by decide)))) d_addI) s_nil)))) ⟨s', bs, _, rfl, h1.ok, h3, h4, hbs, rfl⟩
      · simp
    exact m_if (x := false) (t_view vw tt) (fun q => nomatch q) (fun _ => m_next (.inl ⟨_, .inl rfl, Wk.keep (Wk.keep (Wk.keep (Wk.keep (Wk.keep (Wk.keep (Wk.keep (Wk.drop (Wk.keep (Wk.drop (Wk.drop (Wk.keep (Wk.keep Wk.nil)))))))))))), rfl⟩))
  let Gw : List Sl := (G8.set 4 (.dat (stkD A.c_Stacks s))).set 5 (.dat (ownD s.told (s.piles.map pileD)))
  have vw : VwG M3 G8 Gw := .keep (.keep (.keep (.keep (.dat inv.st.vw (.dat (own_vw inv.own) (.keep (.keep (.keep (.keep (.keep (.keep (.keep .nil))))))))))))
  have hf : ((s.told.map rowD).filter fun _ => false).map (fun d => d) = [] := by
    rw [List.filter_eq_nil_iff.mpr (fun a _ => by decide)]
    rfl
  refine m_ret (r_view vw (e_is (e_op (e_is (b := .lst []) (e_share (o_lcF (fun _ => false) (fun d => d) (it_list (e_ownTold rfl)) (by rw [List.length_map]; omega) (fun d hd => ?_) (fun d hd q => nomatch q))) (by rw [hf])) (e_share (o_lst s_nil (by show 0 ≤ 100000; decide))) (d_eqD (by decide +kernel) (by decide +kernel))) (congrArg D.bl (by decide +kernel))) rfl) rfl
  obtain ⟨r, hr, rfl⟩ := List.mem_map.mp hd
  obtain ⟨t, ht⟩ := find_some_of hr
  obtain ⟨x3, hx3⟩ := n_show (K := K) (pile_sm inv.st.ok inv.full inv.bx ht)
  have er : ∀ {G : List Sl}, G[12]? = some (.dat (rowD r)) → EvD K (tOp (gIx K) (tVar 12) (tC (.int 0))) G (.str r.1) := fun h => e_op (e_var h) e_int (d_ixT (by rfl))
  exact t_is (t_test (e_op (e_cb (s_cons (e_share (o_methO (e_var rfl) rfl (s_cons (er rfl) s_nil) ⟨s, r.1, t, rfl, n12 _ _ ht, ht, inv.st.ok.pl, rfl⟩)) s_nil) hx3) (e_cb (s_cons (e_dget (k := .inr r.1) (e_ownPiles rfl) (er rfl) (valE_own inv.st.ok ht)) s_nil) hx3) d_neS)) (by rw [decide_eq_true rfl]; rfl)
theorem law_end {K : PySem.W.Frag} {H : Hp} {a : Addr} {ns : List Int} (hl : ns.length ≤ 63) (hS : SqL K H a (ns.map V.int)) : sp_law K [.ref a] H (fun v _ => v = .bl true) fun _ _ _ => False := law_endM hS ⟨ns, rfl, hl, rfl, rfl⟩ fun r M' k => k

end

/-- what the top has written -/
structure Tx (K : PySem.W.Frag) (mg : Str → Option Value) where
  A : XA
  a_is_name : Addr
  d_is_name : FuncData
  F_is_name : Fun K "is_name" "is_name" s_is_name a_is_name d_is_name
  m_is_name : mg "is_name" = some (.ref a_is_name)
  a_is_among : Addr
  d_is_among : FuncData
  F_is_among : Fun K "is_among" "is_among" s_is_among a_is_among d_is_among
  m_is_among : mg "is_among" = some (.ref a_is_among)
  a_Stacks_init : Addr
  d_Stacks_init : FuncData
  F_Stacks_init : Fun K "__init__" "Stacks.__init__" s_Stacks_init a_Stacks_init d_Stacks_init
  mk_Stacks : Mk K A.c_Stacks a_Stacks_init
  a_Stacks_names : Addr
  d_Stacks_names : FuncData
  F_Stacks_names : Fun K "names" "Stacks.names" s_Stacks_names a_Stacks_names d_Stacks_names
  me_Stacks_names : Meth K A.c_Stacks "names" a_Stacks_names
  a_Stacks_place_of : Addr
  d_Stacks_place_of : FuncData
  F_Stacks_place_of : Fun K "place_of" "Stacks.place_of" s_Stacks_place_of a_Stacks_place_of d_Stacks_place_of
  me_Stacks_place_of : Meth K A.c_Stacks "place_of" a_Stacks_place_of
  a_Stacks_high : Addr
  d_Stacks_high : FuncData
  F_Stacks_high : Fun K "high" "Stacks.high" s_Stacks_high a_Stacks_high d_Stacks_high
  me_Stacks_high : Meth K A.c_Stacks "high" a_Stacks_high
  a_Stacks_weight : Addr
  d_Stacks_weight : FuncData
  F_Stacks_weight : Fun K "weight" "Stacks.weight" s_Stacks_weight a_Stacks_weight d_Stacks_weight
  me_Stacks_weight : Meth K A.c_Stacks "weight" a_Stacks_weight
  a_Stacks_boxes : Addr
  d_Stacks_boxes : FuncData
  F_Stacks_boxes : Fun K "boxes" "Stacks.boxes" s_Stacks_boxes a_Stacks_boxes d_Stacks_boxes
  me_Stacks_boxes : Meth K A.c_Stacks "boxes" a_Stacks_boxes
  a_Stacks_where : Addr
  d_Stacks_where : FuncData
  F_Stacks_where : Fun K "where" "Stacks.where" s_Stacks_where a_Stacks_where d_Stacks_where
  me_Stacks_where : Meth K A.c_Stacks "where" a_Stacks_where
  a_Stacks_is_top : Addr
  d_Stacks_is_top : FuncData
  F_Stacks_is_top : Fun K "is_top" "Stacks.is_top" s_Stacks_is_top a_Stacks_is_top d_Stacks_is_top
  me_Stacks_is_top : Meth K A.c_Stacks "is_top" a_Stacks_is_top
  a_Stacks_put : Addr
  d_Stacks_put : FuncData
  F_Stacks_put : Fun K "put" "Stacks.put" s_Stacks_put a_Stacks_put d_Stacks_put
  me_Stacks_put : Meth K A.c_Stacks "put" a_Stacks_put
  a_Stacks_take : Addr
  d_Stacks_take : FuncData
  F_Stacks_take : Fun K "take" "Stacks.take" s_Stacks_take a_Stacks_take d_Stacks_take
  me_Stacks_take : Meth K A.c_Stacks "take" a_Stacks_take
  a_Stacks_copied : Addr
  d_Stacks_copied : FuncData
  F_Stacks_copied : Fun K "copied" "Stacks.copied" s_Stacks_copied a_Stacks_copied d_Stacks_copied
  me_Stacks_copied : Meth K A.c_Stacks "copied" a_Stacks_copied
  a_Stacks__lies : Addr
  d_Stacks__lies : FuncData
  F_Stacks__lies : Fun K "_lies" "Stacks._lies" s_Stacks__lies a_Stacks__lies d_Stacks__lies
  me_Stacks__lies : Meth K A.c_Stacks "_lies" a_Stacks__lies
  a_Stacks__ask_stack : Addr
  d_Stacks__ask_stack : FuncData
  F_Stacks__ask_stack : Fun K "_ask_stack" "Stacks._ask_stack" s_Stacks__ask_stack a_Stacks__ask_stack d_Stacks__ask_stack
  me_Stacks__ask_stack : Meth K A.c_Stacks "_ask_stack" a_Stacks__ask_stack
  a_Stacks__ask_space : Addr
  d_Stacks__ask_space : FuncData
  F_Stacks__ask_space : Fun K "_ask_space" "Stacks._ask_space" s_Stacks__ask_space a_Stacks__ask_space d_Stacks__ask_space
  me_Stacks__ask_space : Meth K A.c_Stacks "_ask_space" a_Stacks__ask_space
  a_are_stacks : Addr
  d_are_stacks : FuncData
  F_are_stacks : Fun K "_are_stacks" "_are_stacks" s_are_stacks a_are_stacks d_are_stacks
  m_are_stacks : mg "_are_stacks" = some (.ref a_are_stacks)
  a_is_stack : Addr
  d_is_stack : FuncData
  F_is_stack : Fun K "_is_stack" "_is_stack" s_is_stack a_is_stack d_is_stack
  m_is_stack : mg "_is_stack" = some (.ref a_is_stack)
  a_l_mixed : Addr
  d_l_mixed : FuncData
  F_l_mixed : Fun K "_law_mixed" "_law_mixed" s_l_mixed a_l_mixed d_l_mixed
  m_l_mixed : mg "_law_mixed" = some (.ref a_l_mixed)
  a_l_number : Addr
  d_l_number : FuncData
  F_l_number : Fun K "_law_number" "_law_number" s_l_number a_l_number d_l_number
  m_l_number : mg "_law_number" = some (.ref a_l_number)
  a_l_names : Addr
  d_l_names : FuncData
  F_l_names : Fun K "_law_names" "_law_names" s_l_names a_l_names d_l_names
  m_l_names : mg "_law_names" = some (.ref a_l_names)
  a_l_stacks : Addr
  d_l_stacks : FuncData
  F_l_stacks : Fun K "_law_stacks" "_law_stacks" s_l_stacks a_l_stacks d_l_stacks
  m_l_stacks : mg "_law_stacks" = some (.ref a_l_stacks)
  a_l_weight : Addr
  d_l_weight : FuncData
  F_l_weight : Fun K "_law_weight" "_law_weight" s_l_weight a_l_weight d_l_weight
  m_l_weight : mg "_law_weight" = some (.ref a_l_weight)
  a_l_new : Addr
  d_l_new : FuncData
  F_l_new : Fun K "_law_new" "_law_new" s_l_new a_l_new d_l_new
  m_l_new : mg "_law_new" = some (.ref a_l_new)
  a_l_kept : Addr
  d_l_kept : FuncData
  F_l_kept : Fun K "_law_kept" "_law_kept" s_l_kept a_l_kept d_l_kept
  m_l_kept : mg "_law_kept" = some (.ref a_l_kept)
  a_l_of : Addr
  d_l_of : FuncData
  F_l_of : Fun K "_law_of" "_law_of" s_l_of a_l_of d_l_of
  m_l_of : mg "_law_of" = some (.ref a_l_of)
  a_l_where : Addr
  d_l_where : FuncData
  F_l_where : Fun K "_law_where" "_law_where" s_l_where a_l_where d_l_where
  m_l_where : mg "_law_where" = some (.ref a_l_where)
  a_l_may : Addr
  d_l_may : FuncData
  F_l_may : Fun K "_law_may" "_law_may" s_l_may a_l_may d_l_may
  m_l_may : mg "_law_may" = some (.ref a_l_may)
  a_l_deed : Addr
  d_l_deed : FuncData
  F_l_deed : Fun K "_law_deed" "_law_deed" s_l_deed a_l_deed d_l_deed
  m_l_deed : mg "_law_deed" = some (.ref a_l_deed)
  a_l_right : Addr
  d_l_right : FuncData
  F_l_right : Fun K "_law_right" "_law_right" s_l_right a_l_right d_l_right
  m_l_right : mg "_law_right" = some (.ref a_l_right)
  a_law : Addr
  d_law : FuncData
  F_law : Fun K "law" "law" s_law a_law d_law
  m_law : mg "law" = some (.ref a_law)
  g_Stacks : mg "Stacks" = some (.ref A.c_Stacks)
  g_CraneError : mg "CraneError" = some (.ref A.c_CraneError)
  g_BadName : mg "BadName" = some (.ref A.c_BadName)
  g_BadNumber : mg "BadNumber" = some (.ref A.c_BadNumber)
  g_BadStack : mg "BadStack" = some (.ref A.c_BadStack)
  g_Twice : mg "Twice" = some (.ref A.c_Twice)
  g_NoStack : mg "NoStack" = some (.ref A.c_NoStack)
  g_NoBox : mg "NoBox" = some (.ref A.c_NoBox)
  g_TooHigh : mg "TooHigh" = some (.ref A.c_TooHigh)
  g_TooHeavy : mg "TooHeavy" = some (.ref A.c_TooHeavy)
  g_Empty : mg "Empty" = some (.ref A.c_Empty)
  x_BadStack : PySem.W.excIn K A.c_BadStack [.type "ValueError", .type "Exception", .type "BaseException", .type "object"] "ValueError.__new__" = true
  k_BadStack : PySem.W.keepIn K (.ref A.c_BadStack) = true
  b_BadStack : PySem.W.subIn K (.ref A.c_BadStack) (.type "BaseException") = some true
  t_BadStack : PySem.W.typeIn K (.ref A.c_BadStack) = some (.type "type")
  x_BadName : PySem.W.excIn K A.c_BadName [.type "ValueError", .type "Exception", .type "BaseException", .type "object"] "ValueError.__new__" = true
  k_BadName : PySem.W.keepIn K (.ref A.c_BadName) = true
  b_BadName : PySem.W.subIn K (.ref A.c_BadName) (.type "BaseException") = some true
  t_BadName : PySem.W.typeIn K (.ref A.c_BadName) = some (.type "type")
  x_BadNumber : PySem.W.excIn K A.c_BadNumber [.type "ValueError", .type "Exception", .type "BaseException", .type "object"] "ValueError.__new__" = true
  k_BadNumber : PySem.W.keepIn K (.ref A.c_BadNumber) = true
  b_BadNumber : PySem.W.subIn K (.ref A.c_BadNumber) (.type "BaseException") = some true
  t_BadNumber : PySem.W.typeIn K (.ref A.c_BadNumber) = some (.type "type")
  x_NoStack : PySem.W.excIn K A.c_NoStack [.type "ValueError", .type "Exception", .type "BaseException", .type "object"] "ValueError.__new__" = true
  k_NoStack : PySem.W.keepIn K (.ref A.c_NoStack) = true
  b_NoStack : PySem.W.subIn K (.ref A.c_NoStack) (.type "BaseException") = some true
  t_NoStack : PySem.W.typeIn K (.ref A.c_NoStack) = some (.type "type")
  x_Twice : PySem.W.excIn K A.c_Twice [.type "ValueError", .type "Exception", .type "BaseException", .type "object"] "ValueError.__new__" = true
  k_Twice : PySem.W.keepIn K (.ref A.c_Twice) = true
  b_Twice : PySem.W.subIn K (.ref A.c_Twice) (.type "BaseException") = some true
  t_Twice : PySem.W.typeIn K (.ref A.c_Twice) = some (.type "type")
  x_TooHigh : PySem.W.excIn K A.c_TooHigh [.type "ValueError", .type "Exception", .type "BaseException", .type "object"] "ValueError.__new__" = true
  k_TooHigh : PySem.W.keepIn K (.ref A.c_TooHigh) = true
  b_TooHigh : PySem.W.subIn K (.ref A.c_TooHigh) (.type "BaseException") = some true
  t_TooHigh : PySem.W.typeIn K (.ref A.c_TooHigh) = some (.type "type")
  x_TooHeavy : PySem.W.excIn K A.c_TooHeavy [.type "ValueError", .type "Exception", .type "BaseException", .type "object"] "ValueError.__new__" = true
  k_TooHeavy : PySem.W.keepIn K (.ref A.c_TooHeavy) = true
  b_TooHeavy : PySem.W.subIn K (.ref A.c_TooHeavy) (.type "BaseException") = some true
  t_TooHeavy : PySem.W.typeIn K (.ref A.c_TooHeavy) = some (.type "type")
  x_Empty : PySem.W.excIn K A.c_Empty [.type "ValueError", .type "Exception", .type "BaseException", .type "object"] "ValueError.__new__" = true
  k_Empty : PySem.W.keepIn K (.ref A.c_Empty) = true
  b_Empty : PySem.W.subIn K (.ref A.c_Empty) (.type "BaseException") = some true
  t_Empty : PySem.W.typeIn K (.ref A.c_Empty) = some (.type "type")
  x_NoBox : PySem.W.excIn K A.c_NoBox [.type "ValueError", .type "Exception", .type "BaseException", .type "object"] "ValueError.__new__" = true
  k_NoBox : PySem.W.keepIn K (.ref A.c_NoBox) = true
  b_NoBox : PySem.W.subIn K (.ref A.c_NoBox) (.type "BaseException") = some true
  t_NoBox : PySem.W.typeIn K (.ref A.c_NoBox) = some (.type "type")
  Z : CF K A
  b_all : mg "all" = none
  b_bool : mg "bool" = none
  b_dict : mg "dict" = none
  b_enumerate : mg "enumerate" = none
  b_int : mg "int" = none
  b_isinstance : mg "isinstance" = none
  b_len : mg "len" = none
  b_list : mg "list" = none
  b_min : mg "min" = none
  b_range : mg "range" = none
  b_repr : mg "repr" = none
  b_sorted : mg "sorted" = none
  b_str : mg "str" = none
  b_sum : mg "sum" = none
  b_tuple : mg "tuple" = none
  k_GREATEST_NUMBER : Tok
  c_GREATEST_NUMBER : mg "GREATEST_NUMBER" = some (.int 1000000000000 k_GREATEST_NUMBER)
  k_LONGEST_NAME : Tok
  c_LONGEST_NAME : mg "LONGEST_NAME" = some (.int 8 k_LONGEST_NAME)
  k_MOST_BOXES : Tok
  c_MOST_BOXES : mg "MOST_BOXES" = some (.int 20 k_MOST_BOXES)
  k_MOST_STACKS : Tok
  c_MOST_STACKS : mg "MOST_STACKS" = some (.int 20 k_MOST_STACKS)
section
variable {P : Program} {w : World} {K : PySem.W.Frag} {mg : Str → Option Value} {base : Heap}
theorem bd_is_name (T : Tx K mg) : Binds K T.d_is_name ["thing"] [] := T.F_is_name.binds (ps := ["thing"]) fun _ _ _ _ _ _ us hl => match us, hl with | [_], _ => rfl
theorem ok_is_name (T : Tx K mg) : FnOk P w K mg base CX0 1 T.a_is_name T.d_is_name ["thing"] (sp_is_name K T.A) := by
  refine T.F_is_name.ok sc_is_name (fun vs H Q E h => len_is_name h) (fun cdv A outer s H vs Q E hr h => ?_)
  refine ⟨t_is_name K T.A, ?_, body_D (N := nm_is_name) h (fun ds d hR => by rw [ln_is_name hR]; decide) (fun ds d hR => rd_is_name K T.Z hR)⟩
  exact (pss_cons (ps_if (PW.pt (pw_or (pt_not (pt_val (pe_callB call_isi (by rfl) T.b_isinstance (by decide +kernel) (pa_cons (pv 0) (pa_cons (pe_bltn (v := .ty "str") (by rfl) T.b_str (by decide +kernel) rfl) pa_nil))))) (pw_or1 (pt_cmpR op_gGt (pe_callB call_gLen (by rfl) T.b_len (by decide +kernel) (pa_cons (pv 0) pa_nil)) (pe_glob rfl T.c_LONGEST_NAME ⟨_, rfl⟩) (nomark _))))) (pss_one (ps_ret (pe_bl))) pss_nil)
  (pss_one (ps_ret (pe_and (pe_m0 PySem.F.slot_str_islower PySem.F.type_str_islower mt_islower (pv 0)) (pe_and (pe_m0 PySem.F.slot_str_isalpha PySem.F.type_str_isalpha mt_isalpha (pv 0)) (pe_one (pe_m0 PySem.F.slot_str_isascii PySem.F.type_str_isascii mt_isascii (pv 0))))))))
theorem bd_is_among (T : Tx K mg) : Binds K T.d_is_among ["thing", "least", "most"] [] := T.F_is_among.binds (ps := ["thing", "least", "most"]) fun _ _ _ _ _ _ us hl => match us, hl with | [_, _, _], _ => rfl
theorem ok_is_among (T : Tx K mg) : FnOk P w K mg base CX0 1 T.a_is_among T.d_is_among ["thing", "least", "most"] (sp_is_among K T.A) := by
  refine T.F_is_among.ok sc_is_among (fun vs H Q E h => len_is_among h) (fun cdv A outer s H vs Q E hr h => ?_)
  refine ⟨t_is_among K T.A, ?_, body_D (N := nm_is_among) h (fun ds d hR => by rw [ln_is_among hR]; decide) (fun ds d hR => rd_is_among K T.Z hR)⟩
  exact (pss_cons (ps_if (PW.pt (pw_or (pt_not (pt_val (pe_callB call_isi (by rfl) T.b_isinstance (by decide +kernel) (pa_cons (pv 0) (pa_cons (pe_bltn (v := .ty "int") (by rfl) T.b_int (by decide +kernel) rfl) pa_nil))))) (pw_or1 (pt_val (pe_callB call_isi (by rfl) T.b_isinstance (by decide +kernel) (pa_cons (pv 0) (pa_cons (pe_bltn (v := .ty "bool") (by rfl) T.b_bool (by decide +kernel) rfl) pa_nil))))))) (pss_one (ps_ret (pe_bl))) pss_nil)
  (pss_one (ps_ret (pe_chain op_gLe op_gLe (pv 1) (pv 0) (pv 2)))))
theorem bd_Stacks_names (T : Tx K mg) : Binds K T.d_Stacks_names ["self"] [] := T.F_Stacks_names.binds (ps := ["self"]) fun _ _ _ _ _ _ us hl => match us, hl with | [_], _ => rfl
theorem ok_Stacks_names (T : Tx K mg) : FnOk P w K mg base CX0 1 T.a_Stacks_names T.d_Stacks_names ["self"] (sp_Stacks_names K T.A) := by
  refine T.F_Stacks_names.ok sc_Stacks_names (fun vs H Q E h => len_Stacks_names h) (fun cdv A outer s H vs Q E hr h => ?_)
  refine ⟨t_Stacks_names K T.A, ?_, body_O (N := nm_Stacks_names) h (fun ds d hR => by rw [ln_Stacks_names hR]; decide) (fun ds d hR => rd_Stacks_names K T.Z hR)⟩
  exact (pss_one (ps_ret (pe_callB (call_gSortedD rfl) (by rfl) T.b_sorted (by decide +kernel) (pa_cons (pe_fld (pv 0) rfl) pa_nil))))
theorem bd_Stacks__ask_space (T : Tx K mg) : Binds K T.d_Stacks__ask_space ["self", "weight", "stack"] [] := T.F_Stacks__ask_space.binds (ps := ["self", "weight", "stack"]) fun _ _ _ _ _ _ us hl => match us, hl with | [_, _, _], _ => rfl
theorem ok_Stacks__ask_space (T : Tx K mg) : FnOk P w K mg base (L2.CX P w) 1 T.a_Stacks__ask_space T.d_Stacks__ask_space ["self", "weight", "stack"] (sp_Stacks__ask_space K T.A) := by
  refine T.F_Stacks__ask_space.okX sc_Stacks__ask_space (fun vs H Q E h => len_Stacks__ask_space h) (fun cdv A outer s H vs Q E hr h => ?_)
  refine ⟨t_Stacks__ask_space K T.A E, ?_, body_XN (t := t_Stacks__ask_space K T.A) (N := nm_Stacks__ask_space) h (fun ds d hR => by rw [ln_Stacks__ask_space hR]; decide) (fun ds r E hR => rd_Stacks__ask_space K T.Z E hR)⟩
  exact (pss_cons (ps_asg (pe_dget (hu1 hr) (pe_fld (pv 0) rfl) (pv 2) (fun _ _ => rfl)) (pg_tup rfl (pgs_cons (pg_name (i := 3) sc_Stacks__ask_space.nd rfl (by first | exact Or.inl rfl | exact Or.inr rfl)) (pgs_cons (pg_name (i := 3) sc_Stacks__ask_space.nd rfl (by first | exact Or.inl rfl | exact Or.inr rfl)) (pgs_cons (pg_name (i := 4) sc_Stacks__ask_space.nd rfl (by first | exact Or.inl rfl | exact Or.inr rfl)) (pgs_cons (pg_name (i := 5) sc_Stacks__ask_space.nd rfl (by first | exact Or.inl rfl | exact Or.inr rfl)) pgs_nil))))))
  (pss_cons (ps_set (i := 6) sc_Stacks__ask_space.nd rfl (by first | exact Or.inl rfl | exact Or.inr rfl) (pe_dget (hu1 hr) (pe_fld (pv 0) rfl) (pv 2) (fun _ _ => rfl)))
  (pss_cons (ps_if (pt_cmpR op_gGe (pe_callB call_gLen (by rfl) T.b_len (by decide +kernel) (pa_cons (pv 6) pa_nil)) (pv 4) (nomark _)) (pss_one (ps_raise rfl (takes_of rfl rfl rfl rfl) (pmk_own PySem.F.excBase_ValueError T.x_TooHigh T.g_TooHigh T.k_TooHigh (raises_own T.b_TooHigh T.t_TooHigh) (by exact rfl)))) pss_nil)
  (pss_one (ps_if (pt_cmpR op_gGt (pe_op op_gAdd (pe_callB (cr_sum rfl) (by rfl) T.b_sum (by decide +kernel) (pa_cons (pe_lc (own := [("_", 3), ("lying", 7)]) (g := (gTup K 2 (gCons (gName 3) (gCons (gName 7) gNil)))) (tt := tYes) (by rfl) sc_Stacks__ask_space.nd (pi_list (pv 6)) (blkOk_by (own := [("_", 3), ("lying", 7)]) (N := nm_Stacks__ask_space) (sc := defScope s_Stacks__ask_space) (by decide +kernel)) (fun _ _ _ _ _ => (pg_tup rfl (pgs_cons (pg_name (i := 3) sc_Stacks__ask_space.nd rfl (Or.inl rfl)) (pgs_cons (pg_name (i := 7) sc_Stacks__ask_space.nd rfl (Or.inl rfl)) pgs_nil)))) (fun _ _ _ _ _ => pts_nil) (fun _ _ _ _ _ => (pv 7))) pa_nil)) (pv 1)) (pv 5) (nomark _)) (pss_one (ps_raise rfl (takes_of rfl rfl rfl rfl) (pmk_own PySem.F.excBase_ValueError T.x_TooHeavy T.g_TooHeavy T.k_TooHeavy (raises_own T.b_TooHeavy T.t_TooHeavy) (by exact rfl)))) pss_nil)))))
theorem bd_l_mixed (T : Tx K mg) : Binds K T.d_l_mixed ["_law_cell", "_law_k"] [] := T.F_l_mixed.binds (ps := ["_law_cell", "_law_k"]) fun _ _ _ _ _ _ us hl => match us, hl with | [_, _], _ => rfl
theorem ok_l_mixed (T : Tx K mg) : FnOk P w K mg base CX0 1 T.a_l_mixed T.d_l_mixed ["_law_cell", "_law_k"] (sp_l_mixed K T.A) := by
  refine T.F_l_mixed.ok sc_l_mixed (fun vs H Q E h => len_l_mixed h) (fun cdv A outer s H vs Q E hr h => ?_)
  refine ⟨t_l_mixed K T.A, ?_, body_D (N := nm_l_mixed) h (fun ds d hR => by rw [ln_l_mixed hR]; decide) (fun ds d hR => rd_l_mixed K T.Z hR)⟩
  exact (pss_cons (ps_set (i := 2) sc_l_mixed.nd rfl (by first | exact Or.inl rfl | exact Or.inr rfl) (pe_op op_gMod (pe_op op_gMul (pe_op op_gAdd (pe_op op_gAdd (pe_op op_gAdd (pe_op op_gMod (pv 0) (pe_int)) (pe_op op_gMul (pe_op op_gMul (pe_int) (pv 1)) (pv 1))) (pe_op op_gMul (pe_int) (pv 1))) (pe_int)) (pe_int)) (pe_int)))
  (pss_one (ps_ret (pe_op op_gFdv (pe_op op_gMod (pe_op op_gMul (pv 2) (pe_op op_gAdd (pe_op op_gMod (pv 2) (pe_int)) (pe_int))) (pe_int)) (pe_int)))))
theorem bd_l_names (T : Tx K mg) : Binds K T.d_l_names ["_law_number_here", "_law_size"] [] := T.F_l_names.binds (ps := ["_law_number_here", "_law_size"]) fun _ _ _ _ _ _ us hl => match us, hl with | [_, _], _ => rfl
theorem ok_l_names (T : Tx K mg) : FnOk P w K mg base CX0 1 T.a_l_names T.d_l_names ["_law_number_here", "_law_size"] (sp_l_names K T.A) := by
  refine T.F_l_names.ok sc_l_names (fun vs H Q E h => len_l_names h) (fun cdv A outer s H vs Q E hr h => ?_)
  refine ⟨t_l_names K T.A, ?_, body_D (N := nm_l_names) h (fun ds d hR => by rw [ln_l_names hR]; decide) (fun ds d hR => rd_l_names K T.Z hR)⟩
  exact (pss_cons (ps_set (i := 2) sc_l_names.nd rfl (by first | exact Or.inl rfl | exact Or.inr rfl) (pe_str))
  (pss_cons (ps_set (i := 3) sc_l_names.nd rfl (by first | exact Or.inl rfl | exact Or.inr rfl) (pe_join (pe_str) (pe_lc (own := [("_law_j", 4)]) (g := (gName 4)) (tt := tYes) (by rfl) sc_l_names.nd (pi_range1 (by rfl) T.b_range (pa_cons (pe_int) pa_nil)) (blkOk_by (own := [("_law_j", 4)]) (N := nm_l_names) (sc := defScope s_l_names) (by decide +kernel)) (fun _ _ _ _ _ => (pg_name (i := 4) sc_l_names.nd rfl (Or.inl rfl))) (fun _ _ _ _ _ => pts_nil) (fun _ _ _ _ _ => (pe_ix ix_seq (pv 2) (pe_op op_gMod (pe_op op_gAdd (pe_op op_gAdd (pv 0) (pe_op op_gMul (pe_int) (pv 4))) (pe_op op_gMul (pv 4) (pv 4))) (pe_int)) (fun _ _ => rfl))))))
  (pss_cons (ps_set (i := 5) sc_l_names.nd rfl (by first | exact Or.inl rfl | exact Or.inr rfl) (pe_op op_gMod (pe_op op_gFdv (pv 0) (pe_int)) (pe_int)))
  (pss_cons (ps_set (i := 6) sc_l_names.nd rfl (by first | exact Or.inl rfl | exact Or.inr rfl) (pe_op op_gMod (pe_op op_gFdv (pv 0) (pe_int)) (pe_op op_gAdd (pv 5) (pe_int))))
  (pss_cons (ps_setLc (i := 7) (own := [("_law_k", 8)]) (g := (gName 8)) (tt := tYes) (by rfl) sc_l_names.nd rfl rfl (sw_true rfl rfl rfl (by decide +kernel)) (pi_range1 (by rfl) T.b_range (pa_cons (pv 1) pa_nil)) (blkOk_by (own := [("_law_k", 8)]) (N := nm_l_names) (sc := defScope s_l_names) (by decide +kernel)) (fun _ _ _ _ _ => (pg_name (i := 8) sc_l_names.nd rfl (Or.inl rfl))) (fun _ _ _ _ _ => pts_nil) (fun _ _ _ _ _ => (pe_ix ix_seq (pv 2) (pe_op op_gMod (pe_op op_gAdd (pe_op op_gFdv (pv 0) (pe_int)) (pe_op op_gMul (pe_int) (pv 8))) (pe_int)) (fun _ _ => rfl))))
  (pss_cons (ps_setLc (i := 9) (own := [("_law_sign", 10)]) (g := (gName 10)) (tt := tYes) (by rfl) sc_l_names.nd rfl rfl (sw_true rfl rfl rfl (by decide +kernel)) (pi_list (pv 7)) (blkOk_by (own := [("_law_sign", 10)]) (N := nm_l_names) (sc := defScope s_l_names) (by decide +kernel)) (fun _ _ _ _ _ => (pg_name (i := 10) sc_l_names.nd rfl (Or.inl rfl))) (fun _ _ _ _ _ => pts_nil) (fun _ _ _ _ _ => (pe_op op_gAdd (pe_op op_gAdd (pe_slice sl_gSl (pv 3) po_none (po_some (pv 6))) (pv 10)) (pe_slice sl_gSl (pv 3) (po_some (pv 6)) (po_some (pv 5))))))
  (pss_one (ps_ret (pe_lc (own := [("_law_k", 8), ("_law_name", 11)]) (g := (gTup K 2 (gCons (gName 8) (gCons (gName 11) gNil)))) (tt := tYes) (by rfl) sc_l_names.nd (pi_enum (by rfl) T.b_enumerate (pa_cons (pv 9) pa_nil)) (blkOk_by (own := [("_law_k", 8), ("_law_name", 11)]) (N := nm_l_names) (sc := defScope s_l_names) (by decide +kernel)) (fun _ _ _ _ _ => (pg_tup rfl (pgs_cons (pg_name (i := 8) sc_l_names.nd rfl (Or.inl rfl)) (pgs_cons (pg_name (i := 11) sc_l_names.nd rfl (Or.inl rfl)) pgs_nil)))) (fun _ _ _ _ _ => pts_nil) (fun _ _ _ _ _ => (pe_ifExp (pt_cmpR op_gLt (pe_callB call_gLen (by rfl) T.b_len (by decide +kernel) (pa_cons (pv 11) pa_nil)) (pe_int) (nomark _)) (pe_op op_gAdd (pv 11) (pe_op op_gMulS (pe_ix ix_seq (pv 3) (pe_op op_gMod (pv 8) (pe_int)) (fun _ _ => rfl)) (pe_op op_gMod (pv 8) (pe_int)))) (pv 11))))))))))))
theorem bd_l_weight (T : Tx K mg) : Binds K T.d_l_weight ["_law_cell"] [] := T.F_l_weight.binds (ps := ["_law_cell"]) fun _ _ _ _ _ _ us hl => match us, hl with | [_], _ => rfl
theorem ok_l_weight (T : Tx K mg) : FnOk P w K mg base CX0 1 T.a_l_weight T.d_l_weight ["_law_cell"] (sp_l_weight K T.A) := by
  refine T.F_l_weight.ok sc_l_weight (fun vs H Q E h => len_l_weight h) (fun cdv A outer s H vs Q E hr h => ?_)
  refine ⟨t_l_weight K T.A, ?_, body_D (N := nm_l_weight) h (fun ds d hR => by rw [ln_l_weight hR]; decide) (fun ds d hR => rd_l_weight K T.Z hR)⟩
  exact (pss_one (ps_ret (pe_ix ix_seq (pe_lst (pa_cons (pe_op op_gAdd (pe_int) (pe_op op_gMod (pe_op op_gFdv (pv 0) (pe_int)) (pe_int))) (pa_cons (pe_op op_gAdd (pe_int) (pe_op op_gMod (pe_op op_gFdv (pv 0) (pe_int)) (pe_int))) (pa_cons (pe_int) (pa_cons (pe_op op_gSub (pe_op op_gAdd (pe_op op_gMul (pe_int) (pe_op op_gPow (pe_int) (pe_int))) (pe_op op_gMod (pe_op op_gFdv (pv 0) (pe_int)) (pe_int))) (pe_int)) pa_nil))))) (pe_op op_gMod (pv 0) (pe_int)) (fun _ _ => rfl))))
theorem bd_l_new (T : Tx K mg) : Binds K T.d_l_new ["_law_told"] [] := T.F_l_new.binds (ps := ["_law_told"]) fun _ _ _ _ _ _ us hl => match us, hl with | [_], _ => rfl
theorem ok_l_new (T : Tx K mg) : FnOk P w K mg base CX0 1 T.a_l_new T.d_l_new ["_law_told"] (sp_l_new K T.A) := by
  refine T.F_l_new.ok sc_l_new (fun vs H Q E h => len_l_new h) (fun cdv A outer s H vs Q E hr h => ?_)
  refine ⟨t_l_new K T.A, ?_, body_M (t := fun _ => t_l_new K T.A) (N := nm_l_new) h (fun ds M P hR => by rw [ln_l_new hR]; decide) (fun ds M P E hR => rd_l_new K T.Z E hR)⟩
  exact (pss_one (ps_ret (pe_disp (pps_cons (pe_str) (pv 0) (pps_cons (pe_str) (pe_callTy (call_gDictP rfl) (by rfl) T.b_dict (by decide +kernel) (pa_cons (pe_lc (own := [("_law_one", 1)]) (g := (gName 1)) (tt := tYes) (by rfl) sc_l_new.nd (pi_list (pv 0)) (blkOk_by (own := [("_law_one", 1)]) (N := nm_l_new) (sc := defScope s_l_new) (by decide +kernel)) (fun _ _ _ _ _ => (pg_name (i := 1) sc_l_new.nd rfl (Or.inl rfl))) (fun _ _ _ _ _ => pts_nil) (fun _ _ _ _ _ => (pe_tup (pa_cons (pe_ix ix_seq (pv 1) (pe_int) (fun _ _ => rfl)) (pa_cons (pe_lst pa_nil) pa_nil))))) pa_nil)) pps_nil)) (by rfl) (by rfl) (fun z => by cases z) (by decide))))
theorem bd_l_kept (T : Tx K mg) : Binds K T.d_l_kept ["_law_own"] [] := T.F_l_kept.binds (ps := ["_law_own"]) fun _ _ _ _ _ _ us hl => match us, hl with | [_], _ => rfl
theorem ok_l_kept (T : Tx K mg) : FnOk P w K mg base CX0 1 T.a_l_kept T.d_l_kept ["_law_own"] (sp_l_kept K T.A) := by
  refine T.F_l_kept.ok sc_l_kept (fun vs H Q E h => len_l_kept h) (fun cdv A outer s H vs Q E hr h => ?_)
  refine ⟨t_l_kept K T.A, ?_, body_M (t := fun _ => t_l_kept K T.A) (N := nm_l_kept) h (fun ds M P hR => by rw [ln_l_kept hR]; decide) (fun ds M P E hR => rd_l_kept K T.Z E hR)⟩
  exact (pss_one (ps_ret (pe_disp (pps_cons (pe_str) (pe_dget (hu1 hr) (pv 0) (pe_str) (fun _ _ => rfl)) (pps_cons (pe_str) (pe_callTy (call_gDictP rfl) (by rfl) T.b_dict (by decide +kernel) (pa_cons (pe_lock (pe_lc (own := [("_law_name", 1), ("_law_pile", 2)]) (g := (gTup K 2 (gCons (gName 1) (gCons (gName 2) gNil)))) (tt := tYes) (by rfl) sc_l_kept.nd (pi_items (pe_dget (hu1 hr) (pv 0) (pe_str) (fun _ _ => rfl))) (blkOk_by (own := [("_law_name", 1), ("_law_pile", 2)]) (N := nm_l_kept) (sc := defScope s_l_kept) (by decide +kernel)) (fun _ _ _ _ _ => (pg_tup rfl (pgs_cons (pg_name (i := 1) sc_l_kept.nd rfl (Or.inl rfl)) (pgs_cons (pg_name (i := 2) sc_l_kept.nd rfl (Or.inl rfl)) pgs_nil)))) (fun _ _ _ _ _ => pts_nil) (fun _ _ _ _ _ => (pe_tup (pa_cons (pv 1) (pa_cons (pe_callTy call_gList (by rfl) T.b_list (by decide +kernel) (pa_cons (pv 2) pa_nil)) pa_nil)))))) pa_nil)) pps_nil)) (by rfl) (by rfl) (fun z => by cases z) (by decide))))
theorem bd_l_of (T : Tx K mg) : Binds K T.d_l_of ["_law_own", "_law_stack"] [] := T.F_l_of.binds (ps := ["_law_own", "_law_stack"]) fun _ _ _ _ _ _ us hl => match us, hl with | [_, _], _ => rfl
theorem ok_l_of (T : Tx K mg) : FnOk P w K mg base CX0 1 T.a_l_of T.d_l_of ["_law_own", "_law_stack"] (sp_l_of K T.A) := by
  refine T.F_l_of.ok sc_l_of (fun vs H Q E h => len_l_of h) (fun cdv A outer s H vs Q E hr h => ?_)
  refine ⟨t_l_of K T.A, ?_, body_D (N := nm_l_of) h (fun ds d hR => by rw [ln_l_of hR]; decide) (fun ds d hR => rd_l_of K T.Z hR)⟩
  exact (pss_one (ps_ret (pe_ix ix_seq (pe_lc (own := [("_law_one", 2)]) (g := (gName 2)) (tt := (tTest (tOp (gEq K) (tOp (gIx K) (tVar 2) (tC (.int 0))) (tVar 1)))) (by rfl) sc_l_of.nd (pi_list (pe_dget (hu1 hr) (pv 0) (pe_str) (fun _ _ => rfl))) (blkOk_by (own := [("_law_one", 2)]) (N := nm_l_of) (sc := defScope s_l_of) (by decide +kernel)) (fun _ _ _ _ _ => (pg_name (i := 2) sc_l_of.nd rfl (Or.inl rfl))) (fun _ _ _ _ _ => (pts_one (pt_cmpR (op_gEq hr.units) (pe_ix ix_seq (pv 2) (pe_int) (fun _ _ => rfl)) (pv 1) (nomark _)))) (fun _ _ _ _ _ => (pv 2))) (pe_int) (fun _ _ => rfl))))
theorem bd_l_where (T : Tx K mg) : Binds K T.d_l_where ["_law_own", "_law_box"] [] := T.F_l_where.binds (ps := ["_law_own", "_law_box"]) fun _ _ _ _ _ _ us hl => match us, hl with | [_, _], _ => rfl
theorem ok_l_where (T : Tx K mg) : FnOk P w K mg base CX0 1 T.a_l_where T.d_l_where ["_law_own", "_law_box"] (sp_l_where K T.A) := by
  refine T.F_l_where.ok sc_l_where (fun vs H Q E h => len_l_where h) (fun cdv A outer s H vs Q E hr h => ?_)
  refine ⟨t_l_where K T.A, ?_, body_D (N := nm_l_where) h (fun ds d hR => by rw [ln_l_where hR]; decide) (fun ds d hR => rd_l_where K T.Z hR)⟩
  exact (pss_cons (ps_lock (ps_for PassesOwn.never rfl (pi_items (pe_dget (hu1 hr) (pv 0) (pe_str) (fun _ _ => rfl))) (pg_tup rfl (pgs_cons (pg_name (i := 2) sc_l_where.nd rfl (by first | exact Or.inl rfl | exact Or.inr rfl)) (pgs_cons (pg_name (i := 3) sc_l_where.nd rfl (by first | exact Or.inl rfl | exact Or.inr rfl)) pgs_nil))) (pss_one (ps_if (pt_cmpR op_gIn (pv 1) (pe_lc (own := [("_law_one", 4)]) (g := (gName 4)) (tt := tYes) (by rfl) sc_l_where.nd (pi_list (pv 3)) (blkOk_by (own := [("_law_one", 4)]) (N := nm_l_where) (sc := defScope s_l_where) (by decide +kernel)) (fun _ _ _ _ _ => (pg_name (i := 4) sc_l_where.nd rfl (Or.inl rfl))) (fun _ _ _ _ _ => pts_nil) (fun _ _ _ _ _ => (pe_ix ix_seq (pv 4) (pe_int) (fun _ _ => rfl)))) (by rfl)) (pss_one (ps_ret (pv 2))) pss_nil))))
  (pss_one (ps_ret (pe_non))))
theorem bd_Stacks__lies (T : Tx K mg) : Binds K T.d_Stacks__lies ["self", "thing"] [] := T.F_Stacks__lies.binds (ps := ["self", "thing"]) fun _ _ _ _ _ _ us hl => match us, hl with | [_, _], _ => rfl
theorem ok_Stacks__lies (T : Tx K mg) : FnOk P w K mg base CX0 2 T.a_Stacks__lies T.d_Stacks__lies ["self", "thing"] (sp_Stacks__lies K T.A) := by
  refine T.F_Stacks__lies.ok sc_Stacks__lies (fun vs H Q E h => len_Stacks__lies h) (fun cdv A outer s H vs Q E hr h => ?_)
  refine ⟨t_Stacks__lies K T.A, ?_, body_D (N := nm_Stacks__lies) h (fun ds d hR => by rw [ln_Stacks__lies hR]; decide) (fun ds d hR => rd_Stacks__lies K T.Z hR)⟩
  exact (pss_one (ps_ret (pe_and (pe_call (ok_is_name T) (hr.mono (by decide)) (by rfl) T.m_is_name T.F_is_name.kp (bd_is_name T) .nil pass0 (pa_cons (pv 1) pa_nil)) (pe_one (pe_cmp (pc_din (hu1 hr) (pv 1) (pe_fld (pv 0) rfl)))))))
theorem bd_Stacks__ask_stack (T : Tx K mg) : Binds K T.d_Stacks__ask_stack ["self", "thing"] [] := T.F_Stacks__ask_stack.binds (ps := ["self", "thing"]) fun _ _ _ _ _ _ us hl => match us, hl with | [_, _], _ => rfl
theorem ok_Stacks__ask_stack (T : Tx K mg) : FnOk P w K mg base (L2.CX P w) 2 T.a_Stacks__ask_stack T.d_Stacks__ask_stack ["self", "thing"] (sp_Stacks__ask_stack K T.A) := by
  refine T.F_Stacks__ask_stack.okX sc_Stacks__ask_stack (fun vs H Q E h => len_Stacks__ask_stack h) (fun cdv A outer s H vs Q E hr h => ?_)
  refine ⟨t_Stacks__ask_stack K T.A E, ?_, body_XN (t := t_Stacks__ask_stack K T.A) (N := nm_Stacks__ask_stack) h (fun ds d hR => by rw [ln_Stacks__ask_stack hR]; decide) (fun ds r E hR => rd_Stacks__ask_stack K T.Z E hR)⟩
  exact (pss_one (ps_if (PW.pt (pw_or (pt_not (pt_val (pe_call (ok_is_name T) (hr.mono (by decide)) (by rfl) T.m_is_name T.F_is_name.kp (bd_is_name T) .nil pass0 (pa_cons (pv 1) pa_nil)))) (pw_or1 (pt_cmp (pc_dnotin (hu1 hr) (pv 1) (pe_fld (pv 0) rfl)))))) (pss_one (ps_raise rfl (takes_of rfl rfl rfl rfl) (pmk_own PySem.F.excBase_ValueError T.x_NoStack T.g_NoStack T.k_NoStack (raises_own T.b_NoStack T.t_NoStack) (by exact rfl)))) pss_nil))
theorem bd_is_stack (T : Tx K mg) : Binds K T.d_is_stack ["thing"] [] := T.F_is_stack.binds (ps := ["thing"]) fun _ _ _ _ _ _ us hl => match us, hl with | [_], _ => rfl
theorem ok_is_stack (T : Tx K mg) : FnOk P w K mg base CX0 2 T.a_is_stack T.d_is_stack ["thing"] (sp_is_stack K T.A) := by
  refine T.F_is_stack.ok sc_is_stack (fun vs H Q E h => len_is_stack h) (fun cdv A outer s H vs Q E hr h => ?_)
  refine ⟨t_is_stack K T.A, ?_, body_D (N := nm_is_stack) h (fun ds d hR => by rw [ln_is_stack hR]; decide) (fun ds d hR => rd_is_stack K T.Z hR)⟩
  exact (pss_cons (ps_if (PW.pt (pw_or (pt_not (pt_val (pe_callB call_isi (by rfl) T.b_isinstance (by decide +kernel) (pa_cons (pv 0) (pa_cons (pe_bltn (v := .ty "tuple") (by rfl) T.b_tuple (by decide +kernel) rfl) pa_nil))))) (pw_or1 (pt_cmpR (op_gNe hr.units) (pe_callB call_gLen (by rfl) T.b_len (by decide +kernel) (pa_cons (pv 0) pa_nil)) (pe_int) (nomark _))))) (pss_one (ps_ret (pe_bl))) pss_nil)
  (pss_cons (ps_asg (pv 0) (pg_tup rfl (pgs_cons (pg_name (i := 1) sc_is_stack.nd rfl (by first | exact Or.inl rfl | exact Or.inr rfl)) (pgs_cons (pg_name (i := 2) sc_is_stack.nd rfl (by first | exact Or.inl rfl | exact Or.inr rfl)) (pgs_cons (pg_name (i := 3) sc_is_stack.nd rfl (by first | exact Or.inl rfl | exact Or.inr rfl)) (pgs_cons (pg_name (i := 4) sc_is_stack.nd rfl (by first | exact Or.inl rfl | exact Or.inr rfl)) pgs_nil))))))
  (pss_one (ps_ret (pe_and (pe_call (ok_is_name T) (hr.mono (by decide)) (by rfl) T.m_is_name T.F_is_name.kp (bd_is_name T) .nil pass0 (pa_cons (pv 1) pa_nil)) (pe_and (pe_call (ok_is_among T) (hr.mono (by decide)) (by rfl) T.m_is_among T.F_is_among.kp (bd_is_among T) .nil pass0 (pa_cons (pv 2) (pa_cons (pe_int) (pa_cons (pe_glob rfl T.c_GREATEST_NUMBER ⟨_, rfl⟩) pa_nil)))) (pe_and (pe_call (ok_is_among T) (hr.mono (by decide)) (by rfl) T.m_is_among T.F_is_among.kp (bd_is_among T) .nil pass0 (pa_cons (pv 3) (pa_cons (pe_int) (pa_cons (pe_glob rfl T.c_MOST_BOXES ⟨_, rfl⟩) pa_nil)))) (pe_one (pe_call (ok_is_among T) (hr.mono (by decide)) (by rfl) T.m_is_among T.F_is_among.kp (bd_is_among T) .nil pass0 (pa_cons (pv 4) (pa_cons (pe_int) (pa_cons (pe_glob rfl T.c_GREATEST_NUMBER ⟨_, rfl⟩) pa_nil))))))))))))
theorem bd_l_number (T : Tx K mg) : Binds K T.d_l_number ["_law_script", "_law_k"] [] := T.F_l_number.binds (ps := ["_law_script", "_law_k"]) fun _ _ _ _ _ _ us hl => match us, hl with | [_, _], _ => rfl
theorem ok_l_number (T : Tx K mg) : FnOk P w K mg base CX0 2 T.a_l_number T.d_l_number ["_law_script", "_law_k"] (sp_l_number K T.A) := by
  refine T.F_l_number.ok sc_l_number (fun vs H Q E h => len_l_number h) (fun cdv A outer s H vs Q E hr h => ?_)
  refine ⟨t_l_number K T.A, ?_, body_D (N := nm_l_number) h (fun ds d hR => by rw [ln_l_number hR]; decide) (fun ds d hR => rd_l_number K T.Z hR)⟩
  exact (pss_cons (ps_set (i := 2) sc_l_number.nd rfl (by first | exact Or.inl rfl | exact Or.inr rfl) (pe_int))
  (pss_cons (ps_if (pt_cmpR op_gGt (pe_callB call_gLen (by rfl) T.b_len (by decide +kernel) (pa_cons (pv 0) pa_nil)) (pe_int) (nomark _)) (pss_cons (ps_set (i := 2) sc_l_number.nd rfl (by first | exact Or.inl rfl | exact Or.inr rfl) (pe_ix ix_seq (pv 0) (pe_op op_gMod (pv 1) (pe_callB call_gLen (by rfl) T.b_len (by decide +kernel) (pa_cons (pv 0) pa_nil))) (fun _ _ => rfl)))
  (pss_one (ps_if (pt_cmpR (op_gEq hr.units) (pe_op op_gMod (pe_ix ix_seq (pv 0) (pe_int) (fun _ _ => rfl)) (pe_int)) (pe_int) (nomark _)) (pss_cons (ps_for PassesOwn.never rfl (pi_range1 (by rfl) T.b_range (pa_cons (pe_callB (call_gMin rfl) (by rfl) T.b_min (by decide +kernel) (pa_cons (pe_int) (pa_cons (pe_op op_gFdv (pv 1) (pe_callB call_gLen (by rfl) T.b_len (by decide +kernel) (pa_cons (pv 0) pa_nil))) pa_nil))) pa_nil)) (pg_name (i := 3) sc_l_number.nd rfl (by first | exact Or.inl rfl | exact Or.inr rfl)) (pss_one (ps_set (i := 2) sc_l_number.nd rfl (by first | exact Or.inl rfl | exact Or.inr rfl) (pe_op op_gFdv (pv 2) (pe_op op_gPow (pe_int) (pe_int))))))
  (pss_one (ps_ret (pe_op op_gMod (pv 2) (pe_op op_gPow (pe_int) (pe_int)))))) pss_nil))) pss_nil)
  (pss_one (ps_ret (pe_call (ok_l_mixed T) (hr.mono (by decide)) (by rfl) T.m_l_mixed T.F_l_mixed.kp (bd_l_mixed T) .nil pass0 (pa_cons (pv 2) (pa_cons (pv 1) pa_nil)))))))
theorem bd_l_may (T : Tx K mg) : Binds K T.d_l_may ["_law_own", "_law_box", "_law_weight_here", "_law_stack"] [] := T.F_l_may.binds (ps := ["_law_own", "_law_box", "_law_weight_here", "_law_stack"]) fun _ _ _ _ _ _ us hl => match us, hl with | [_, _, _, _], _ => rfl
theorem ok_l_may (T : Tx K mg) : FnOk P w K mg base CX0 2 T.a_l_may T.d_l_may ["_law_own", "_law_box", "_law_weight_here", "_law_stack"] (sp_l_may K T.A) := by
  refine T.F_l_may.ok sc_l_may (fun vs H Q E h => len_l_may h) (fun cdv A outer s H vs Q E hr h => ?_)
  refine ⟨t_l_may K T.A, ?_, body_D (N := nm_l_may) h (fun ds d hR => by rw [ln_l_may hR]; decide) (fun ds d hR => rd_l_may K T.Z hR)⟩
  exact (pss_cons (ps_asg (pe_call (ok_l_of T) (hr.mono (by decide)) (by rfl) T.m_l_of T.F_l_of.kp (bd_l_of T) .nil pass0 (pa_cons (pv 0) (pa_cons (pv 3) pa_nil))) (pg_tup rfl (pgs_cons (pg_name (i := 4) sc_l_may.nd rfl (by first | exact Or.inl rfl | exact Or.inr rfl)) (pgs_cons (pg_name (i := 5) sc_l_may.nd rfl (by first | exact Or.inl rfl | exact Or.inr rfl)) (pgs_cons (pg_name (i := 6) sc_l_may.nd rfl (by first | exact Or.inl rfl | exact Or.inr rfl)) (pgs_cons (pg_name (i := 7) sc_l_may.nd rfl (by first | exact Or.inl rfl | exact Or.inr rfl)) pgs_nil))))))
  (pss_cons (ps_set (i := 8) sc_l_may.nd rfl (by first | exact Or.inl rfl | exact Or.inr rfl) (pe_dget (hu1 hr) (pe_dget (hu1 hr) (pv 0) (pe_str) (fun _ _ => rfl)) (pv 3) (fun _ _ => rfl)))
  (pss_cons (ps_if (PW.pt (pw_or (pt_cmpR op_gIsn (pe_call (ok_l_where T) (hr.mono (by decide)) (by rfl) T.m_l_where T.F_l_where.kp (bd_l_where T) .nil pass0 (pa_cons (pv 0) (pa_cons (pv 1) pa_nil))) (pe_non) (nomark _)) (pw_or1 (pt_cmpR op_gGe (pe_callB call_gLen (by rfl) T.b_len (by decide +kernel) (pa_cons (pv 8) pa_nil)) (pv 6) (nomark _))))) (pss_one (ps_ret (pe_bl))) pss_nil)
  (pss_one (ps_ret (pe_cmpR op_gLe (pe_op op_gAdd (pe_callB (cr_sum rfl) (by rfl) T.b_sum (by decide +kernel) (pa_cons (pe_lc (own := [("_law_one", 9)]) (g := (gName 9)) (tt := tYes) (by rfl) sc_l_may.nd (pi_list (pv 8)) (blkOk_by (own := [("_law_one", 9)]) (N := nm_l_may) (sc := defScope s_l_may) (by decide +kernel)) (fun _ _ _ _ _ => (pg_name (i := 9) sc_l_may.nd rfl (Or.inl rfl))) (fun _ _ _ _ _ => pts_nil) (fun _ _ _ _ _ => (pe_ix ix_seq (pv 9) (pe_int) (fun _ _ => rfl)))) pa_nil)) (pv 2)) (pv 7) (nomark _)))))))
theorem bd_Stacks_place_of (T : Tx K mg) : Binds K T.d_Stacks_place_of ["self", "stack"] [] := T.F_Stacks_place_of.binds (ps := ["self", "stack"]) fun _ _ _ _ _ _ us hl => match us, hl with | [_, _], _ => rfl
theorem ok_Stacks_place_of (T : Tx K mg) : FnOk P w K mg base (L2.CX P w) 3 T.a_Stacks_place_of T.d_Stacks_place_of ["self", "stack"] (sp_Stacks_place_of K T.A) := by
  refine T.F_Stacks_place_of.okX sc_Stacks_place_of (fun vs H Q E h => len_Stacks_place_of h) (fun cdv A outer s H vs Q E hr h => ?_)
  refine ⟨t_Stacks_place_of K T.A E, ?_, body_X (t := t_Stacks_place_of K T.A) (N := nm_Stacks_place_of) h (fun ds d hR => by rw [ln_Stacks_place_of hR]; decide) (fun ds r E hR => rd_Stacks_place_of K T.Z E hR)⟩
  exact (pss_cons (ps_expr (pe_meth (pv 0) T.Z.cl_Stacks T.me_Stacks__ask_stack (ok_Stacks__ask_stack T) (hr.mono (by decide)) (bd_Stacks__ask_stack T) .nil (passes_call (takes_of rfl rfl rfl rfl) (fun _ _ _ _ hh => hh)) (pa_cons (pv 1) pa_nil)))
  (pss_one (ps_ret (pe_ix ix_seq (pe_dget (hu1 hr) (pe_fld (pv 0) rfl) (pv 1) (fun _ _ => rfl)) (pe_int) (fun _ _ => rfl)))))
theorem bd_Stacks_high (T : Tx K mg) : Binds K T.d_Stacks_high ["self", "stack"] [] := T.F_Stacks_high.binds (ps := ["self", "stack"]) fun _ _ _ _ _ _ us hl => match us, hl with | [_, _], _ => rfl
theorem ok_Stacks_high (T : Tx K mg) : FnOk P w K mg base (L2.CX P w) 3 T.a_Stacks_high T.d_Stacks_high ["self", "stack"] (sp_Stacks_high K T.A) := by
  refine T.F_Stacks_high.okX sc_Stacks_high (fun vs H Q E h => len_Stacks_high h) (fun cdv A outer s H vs Q E hr h => ?_)
  refine ⟨t_Stacks_high K T.A E, ?_, body_X (t := t_Stacks_high K T.A) (N := nm_Stacks_high) h (fun ds d hR => by rw [ln_Stacks_high hR]; decide) (fun ds r E hR => rd_Stacks_high K T.Z E hR)⟩
  exact (pss_cons (ps_expr (pe_meth (pv 0) T.Z.cl_Stacks T.me_Stacks__ask_stack (ok_Stacks__ask_stack T) (hr.mono (by decide)) (bd_Stacks__ask_stack T) .nil (passes_call (takes_of rfl rfl rfl rfl) (fun _ _ _ _ hh => hh)) (pa_cons (pv 1) pa_nil)))
  (pss_one (ps_ret (pe_ix ix_seq (pe_dget (hu1 hr) (pe_fld (pv 0) rfl) (pv 1) (fun _ _ => rfl)) (pe_int) (fun _ _ => rfl)))))
theorem bd_Stacks_weight (T : Tx K mg) : Binds K T.d_Stacks_weight ["self", "stack"] [] := T.F_Stacks_weight.binds (ps := ["self", "stack"]) fun _ _ _ _ _ _ us hl => match us, hl with | [_, _], _ => rfl
theorem ok_Stacks_weight (T : Tx K mg) : FnOk P w K mg base (L2.CX P w) 3 T.a_Stacks_weight T.d_Stacks_weight ["self", "stack"] (sp_Stacks_weight K T.A) := by
  refine T.F_Stacks_weight.okX sc_Stacks_weight (fun vs H Q E h => len_Stacks_weight h) (fun cdv A outer s H vs Q E hr h => ?_)
  refine ⟨t_Stacks_weight K T.A E, ?_, body_X (t := t_Stacks_weight K T.A) (N := nm_Stacks_weight) h (fun ds d hR => by rw [ln_Stacks_weight hR]; decide) (fun ds r E hR => rd_Stacks_weight K T.Z E hR)⟩
  exact (pss_cons (ps_expr (pe_meth (pv 0) T.Z.cl_Stacks T.me_Stacks__ask_stack (ok_Stacks__ask_stack T) (hr.mono (by decide)) (bd_Stacks__ask_stack T) .nil (passes_call (takes_of rfl rfl rfl rfl) (fun _ _ _ _ hh => hh)) (pa_cons (pv 1) pa_nil)))
  (pss_one (ps_ret (pe_ix ix_seq (pe_dget (hu1 hr) (pe_fld (pv 0) rfl) (pv 1) (fun _ _ => rfl)) (pe_int) (fun _ _ => rfl)))))
theorem bd_Stacks_boxes (T : Tx K mg) : Binds K T.d_Stacks_boxes ["self", "stack"] [] := T.F_Stacks_boxes.binds (ps := ["self", "stack"]) fun _ _ _ _ _ _ us hl => match us, hl with | [_, _], _ => rfl
theorem ok_Stacks_boxes (T : Tx K mg) : FnOk P w K mg base CX0 3 T.a_Stacks_boxes T.d_Stacks_boxes ["self", "stack"] (sp_Stacks_boxes K T.A) := by
  refine T.F_Stacks_boxes.ok sc_Stacks_boxes (fun vs H Q E h => len_Stacks_boxes h) (fun cdv A outer s H vs Q E hr h => ?_)
  refine ⟨t_Stacks_boxes K T.A, ?_, body_O (N := nm_Stacks_boxes) h (fun ds d hR => by rw [ln_Stacks_boxes hR]; decide) (fun ds d hR => rd_Stacks_boxes K T.Z hR)⟩
  exact (pss_cons (ps_expr (pe_meth (pv 0) T.Z.cl_Stacks T.me_Stacks__ask_stack (ok_Stacks__ask_stack T) (hr.mono (by decide)) (bd_Stacks__ask_stack T) .nil passL (pa_cons (pv 1) pa_nil)))
  (pss_one (ps_ret (pe_callTy call_gList (by rfl) T.b_list (by decide +kernel) (pa_cons (pe_dget (hu1 hr) (pe_fld (pv 0) rfl) (pv 1) (fun _ _ => rfl)) pa_nil)))))
theorem bd_Stacks_where (T : Tx K mg) : Binds K T.d_Stacks_where ["self", "box"] [] := T.F_Stacks_where.binds (ps := ["self", "box"]) fun _ _ _ _ _ _ us hl => match us, hl with | [_, _], _ => rfl
theorem ok_Stacks_where (T : Tx K mg) : FnOk P w K mg base (L2.CX P w) 3 T.a_Stacks_where T.d_Stacks_where ["self", "box"] (sp_Stacks_where K T.A) := by
  refine T.F_Stacks_where.okX sc_Stacks_where (fun vs H Q E h => len_Stacks_where h) (fun cdv A outer s H vs Q E hr h => ?_)
  refine ⟨t_Stacks_where K T.A E, ?_, body_X (t := t_Stacks_where K T.A) (N := nm_Stacks_where) h (fun ds d hR => by rw [ln_Stacks_where hR]; decide) (fun ds r E hR => rd_Stacks_where K T.Z E hR)⟩
  exact (pss_cons (ps_if (pt_not (pt_val (pe_meth (pv 0) T.Z.cl_Stacks T.me_Stacks__lies (ok_Stacks__lies T) (hr.mono (by decide)) (bd_Stacks__lies T) .nil pass0 (pa_cons (pv 1) pa_nil)))) (pss_one (ps_raise rfl (takes_of rfl rfl rfl rfl) (pmk_own PySem.F.excBase_ValueError T.x_NoBox T.g_NoBox T.k_NoBox (raises_own T.b_NoBox T.t_NoBox) (by exact rfl)))) pss_nil)
  (pss_one (ps_ret (pe_dget (hu1 hr) (pe_fld (pv 0) rfl) (pv 1) (fun _ _ => rfl)))))
theorem bd_Stacks_put (T : Tx K mg) : Binds K T.d_Stacks_put ["self", "box", "weight", "stack"] [] := T.F_Stacks_put.binds (ps := ["self", "box", "weight", "stack"]) fun _ _ _ _ _ _ us hl => match us, hl with | [_, _, _, _], _ => rfl
theorem ok_Stacks_put (T : Tx K mg) : FnOk P w K mg base (L2.CX P w) 3 T.a_Stacks_put T.d_Stacks_put ["self", "box", "weight", "stack"] (sp_Stacks_put K T.A) := by
  refine T.F_Stacks_put.okX sc_Stacks_put (fun vs H Q E h => len_Stacks_put h) (fun cdv A outer s H vs Q E hr h => ?_)
  refine ⟨t_Stacks_put K T.A E, ?_, body_M (t := t_Stacks_put K T.A) (N := nm_Stacks_put) h (fun ds M P hR => by rw [ln_Stacks_put hR]; decide) (fun ds M P E hR => rd_Stacks_put K T.Z E hR)⟩
  exact (pss_cons (ps_if (pt_not (pt_val (pe_call (ok_is_name T) (hr.mono (by decide)) (by rfl) T.m_is_name T.F_is_name.kp (bd_is_name T) .nil pass0 (pa_cons (pv 1) pa_nil)))) (pss_one (ps_raise rfl (takes_of rfl rfl rfl rfl) (pmk_own PySem.F.excBase_ValueError T.x_BadName T.g_BadName T.k_BadName (raises_own T.b_BadName T.t_BadName) (by exact rfl)))) pss_nil)
  (pss_cons (ps_if (pt_not (pt_val (pe_call (ok_is_among T) (hr.mono (by decide)) (by rfl) T.m_is_among T.F_is_among.kp (bd_is_among T) .nil pass0 (pa_cons (pv 2) (pa_cons (pe_int) (pa_cons (pe_glob rfl T.c_GREATEST_NUMBER ⟨_, rfl⟩) pa_nil)))))) (pss_one (ps_raise rfl (takes_of rfl rfl rfl rfl) (pmk_own PySem.F.excBase_ValueError T.x_BadNumber T.g_BadNumber T.k_BadNumber (raises_own T.b_BadNumber T.t_BadNumber) (by exact rfl)))) pss_nil)
  (pss_cons (ps_expr (pe_meth (pv 0) T.Z.cl_Stacks T.me_Stacks__ask_stack (ok_Stacks__ask_stack T) (hr.mono (by decide)) (bd_Stacks__ask_stack T) .nil (passes_call (takes_of rfl rfl rfl rfl) (fun _ _ _ _ hh => hh)) (pa_cons (pv 3) pa_nil)))
  (pss_cons (ps_if (pt_val (pe_meth (pv 0) T.Z.cl_Stacks T.me_Stacks__lies (ok_Stacks__lies T) (hr.mono (by decide)) (bd_Stacks__lies T) .nil pass0 (pa_cons (pv 1) pa_nil))) (pss_one (ps_raise rfl (takes_of rfl rfl rfl rfl) (pmk_own PySem.F.excBase_ValueError T.x_Twice T.g_Twice T.k_Twice (raises_own T.b_Twice T.t_Twice) (by exact rfl)))) pss_nil)
  (pss_cons (ps_expr (pe_meth (pv 0) T.Z.cl_Stacks T.me_Stacks__ask_space (ok_Stacks__ask_space T) (hr.mono (by decide)) (bd_Stacks__ask_space T) .nil (passes_call (takes_of rfl rfl rfl rfl) (fun _ _ _ _ hh => hh)) (pa_cons (pv 2) (pa_cons (pv 3) pa_nil))))
  (pss_cons (ps_expr (pe_bm PySem.F.plainAttrs_list PySem.F.slot_list_append PySem.F.type_list_append mt_append (pe_dget (hu1 hr) (pe_fld (pv 0) rfl) (pv 3) (fun _ _ => rfl)) (pa_cons (pe_tup (pa_cons (pv 1) (pa_cons (pv 2) pa_nil))) pa_nil)))
  (pss_one (ps_dput (hu1 hr) (pe_fld (pv 0) rfl) (pv 1) (pv 3) (by rfl)))))))))
theorem bd_Stacks_take (T : Tx K mg) : Binds K T.d_Stacks_take ["self", "stack"] [] := T.F_Stacks_take.binds (ps := ["self", "stack"]) fun _ _ _ _ _ _ us hl => match us, hl with | [_, _], _ => rfl
theorem ok_Stacks_take (T : Tx K mg) : FnOk P w K mg base (L2.CX P w) 3 T.a_Stacks_take T.d_Stacks_take ["self", "stack"] (sp_Stacks_take K T.A) := by
  refine T.F_Stacks_take.okX sc_Stacks_take (fun vs H Q E h => len_Stacks_take h) (fun cdv A outer s H vs Q E hr h => ?_)
  refine ⟨t_Stacks_take K T.A E, ?_, body_M (t := t_Stacks_take K T.A) (N := nm_Stacks_take) h (fun ds M P hR => by rw [ln_Stacks_take hR]; decide) (fun ds M P E hR => rd_Stacks_take K T.Z E hR)⟩
  exact (pss_cons (ps_expr (pe_meth (pv 0) T.Z.cl_Stacks T.me_Stacks__ask_stack (ok_Stacks__ask_stack T) (hr.mono (by decide)) (bd_Stacks__ask_stack T) .nil (passes_call (takes_of rfl rfl rfl rfl) (fun _ _ _ _ hh => hh)) (pa_cons (pv 1) pa_nil)))
  (pss_cons (ps_if (pt_not (pt_truth (pe_dget (hu1 hr) (pe_fld (pv 0) rfl) (pv 1) (fun _ _ => rfl)) (by intro _; rfl))) (pss_one (ps_raise rfl (takes_of rfl rfl rfl rfl) (pmk_own PySem.F.excBase_ValueError T.x_Empty T.g_Empty T.k_Empty (raises_own T.b_Empty T.t_Empty) (by exact rfl)))) pss_nil)
  (pss_cons (ps_asg (pe_bm0 PySem.F.plainAttrs_list PySem.F.slot_list_pop PySem.F.type_list_pop mt_pop (pe_dget (hu1 hr) (pe_fld (pv 0) rfl) (pv 1) (fun _ _ => rfl))) (pg_tup rfl (pgs_cons (pg_name (i := 2) sc_Stacks_take.nd rfl (by first | exact Or.inl rfl | exact Or.inr rfl)) (pgs_cons (pg_name (i := 3) sc_Stacks_take.nd rfl (by first | exact Or.inl rfl | exact Or.inr rfl)) pgs_nil))))
  (pss_cons (ps_ddel (pe_fld (pv 0) rfl) (pv 2))
  (pss_one (ps_ret (pe_tup (pa_cons (pv 2) (pa_cons (pv 3) pa_nil)))))))))
theorem bd_are_stacks (T : Tx K mg) : Binds K T.d_are_stacks ["thing"] [] := T.F_are_stacks.binds (ps := ["thing"]) fun _ _ _ _ _ _ us hl => match us, hl with | [_], _ => rfl
theorem ok_are_stacks (T : Tx K mg) : FnOk P w K mg base CX0 3 T.a_are_stacks T.d_are_stacks ["thing"] (sp_are_stacks K T.A) := by
  refine T.F_are_stacks.ok sc_are_stacks (fun vs H Q E h => len_are_stacks h) (fun cdv A outer s H vs Q E hr h => ?_)
  refine ⟨t_are_stacks K T.A, ?_, body_D (N := nm_are_stacks) h (fun ds d hR => by rw [ln_are_stacks hR]; decide) (fun ds d hR => rd_are_stacks K T.Z hR)⟩
  exact (pss_cons (ps_if (PW.pt (pw_or (pt_not (pt_val (pe_callB call_isi (by rfl) T.b_isinstance (by decide +kernel) (pa_cons (pv 0) (pa_cons (pe_bltn (v := .ty "list") (by rfl) T.b_list (by decide +kernel) rfl) pa_nil))))) (pw_or1 (pt_not (pt_chain op_gLe op_gLe (pe_int) (pe_callB call_gLen (by rfl) T.b_len (by decide +kernel) (pa_cons (pv 0) pa_nil)) (pe_glob rfl T.c_MOST_STACKS ⟨_, rfl⟩)))))) (pss_one (ps_ret (pe_bl))) pss_nil)
  (pss_cons (ps_if (pt_not (pt_val (pe_callB (cr_all rfl) (by rfl) T.b_all (by decide +kernel) (pa_cons (pe_lc (own := [("row", 1)]) (g := (gName 1)) (tt := tYes) (by rfl) sc_are_stacks.nd (pi_list (pv 0)) (blkOk_by (own := [("row", 1)]) (N := nm_are_stacks) (sc := defScope s_are_stacks) (by decide +kernel)) (fun _ _ _ _ _ => (pg_name (i := 1) sc_are_stacks.nd rfl (Or.inl rfl))) (fun _ _ _ _ _ => pts_nil) (fun _ _ _ _ _ => (pe_call (ok_is_stack T) (hr.mono (by decide)) (by rfl) T.m_is_stack T.F_is_stack.kp (bd_is_stack T) .nil pass0 (pa_cons (pv 1) pa_nil)))) pa_nil)))) (pss_one (ps_ret (pe_bl))) pss_nil)
  (pss_one (ps_ret (pe_chain (op_gEq hr.units) (op_gEq hr.units) (pe_lenSc (own := [("row", 1)]) (g := (gName 1)) (tt := tYes) (by rfl) sc_are_stacks.nd (by rfl) T.b_len (pi_list (pv 0)) (blkOk_by (own := [("row", 1)]) (N := nm_are_stacks) (sc := defScope s_are_stacks) (by decide +kernel)) (fun _ _ _ _ _ => (pg_name (i := 1) sc_are_stacks.nd rfl (Or.inl rfl))) (fun _ _ _ _ _ => pts_nil) (fun _ _ _ _ _ => (pe_ix ix_seq (pv 1) (pe_int) (fun _ _ => rfl)))) (pe_callB call_gLen (by rfl) T.b_len (by decide +kernel) (pa_cons (pv 0) pa_nil)) (pe_lenSc (own := [("row", 1)]) (g := (gName 1)) (tt := tYes) (by rfl) sc_are_stacks.nd (by rfl) T.b_len (pi_list (pv 0)) (blkOk_by (own := [("row", 1)]) (N := nm_are_stacks) (sc := defScope s_are_stacks) (by decide +kernel)) (fun _ _ _ _ _ => (pg_name (i := 1) sc_are_stacks.nd rfl (Or.inl rfl))) (fun _ _ _ _ _ => pts_nil) (fun _ _ _ _ _ => (pe_ix ix_seq (pv 1) (pe_int) (fun _ _ => rfl)))))))))
theorem bd_l_stacks (T : Tx K mg) : Binds K T.d_l_stacks ["_law_script", "_law_at"] [] := T.F_l_stacks.binds (ps := ["_law_script", "_law_at"]) fun _ _ _ _ _ _ us hl => match us, hl with | [_, _], _ => rfl
theorem ok_l_stacks (T : Tx K mg) : FnOk P w K mg base CX0 3 T.a_l_stacks T.d_l_stacks ["_law_script", "_law_at"] (sp_l_stacks K T.A) := by
  refine T.F_l_stacks.ok sc_l_stacks (fun vs H Q E h => len_l_stacks h) (fun cdv A outer s H vs Q E hr h => ?_)
  refine ⟨t_l_stacks K T.A, ?_, body_D (N := nm_l_stacks) h (fun ds d hR => by rw [ln_l_stacks hR]; decide) (fun ds d hR => rd_l_stacks K T.Z hR)⟩
  exact (pss_cons (ps_set (i := 2) sc_l_stacks.nd rfl (by first | exact Or.inl rfl | exact Or.inr rfl) (pe_call (ok_l_number T) (hr.mono (by decide)) (by rfl) T.m_l_number T.F_l_number.kp (bd_l_number T) .nil pass0 (pa_cons (pv 0) (pa_cons (pv 1) pa_nil))))
  (pss_cons (ps_set (i := 3) sc_l_stacks.nd rfl (by first | exact Or.inl rfl | exact Or.inr rfl) (pe_ix ix_seq (pe_lst (pa_cons (pe_int) (pa_cons (pe_int) (pa_cons (pe_int) (pa_cons (pe_int) (pa_cons (pe_int) (pa_cons (pe_op op_gAdd (pe_int) (pe_op op_gMod (pe_op op_gFdv (pv 2) (pe_int)) (pe_int))) pa_nil))))))) (pe_op op_gMod (pv 2) (pe_int)) (fun _ _ => rfl)))
  (pss_cons (ps_set (i := 4) sc_l_stacks.nd rfl (by first | exact Or.inl rfl | exact Or.inr rfl) (pe_call (ok_l_names T) (hr.mono (by decide)) (by rfl) T.m_l_names T.F_l_names.kp (bd_l_names T) .nil pass0 (pa_cons (pe_call (ok_l_number T) (hr.mono (by decide)) (by rfl) T.m_l_number T.F_l_number.kp (bd_l_number T) .nil pass0 (pa_cons (pv 0) (pa_cons (pe_op op_gAdd (pv 1) (pe_int)) pa_nil))) (pa_cons (pv 3) pa_nil))))
  (pss_cons (ps_set (i := 5) sc_l_stacks.nd rfl (by first | exact Or.inl rfl | exact Or.inr rfl) (pe_op op_gMod (pe_op op_gFdv (pv 2) (pe_int)) (pe_int)))
  (pss_cons (ps_set (i := 6) sc_l_stacks.nd rfl (by first | exact Or.inl rfl | exact Or.inr rfl) (pe_lst pa_nil))
  (pss_cons (ps_for PassesOwn.never rfl (pi_range1 (by rfl) T.b_range (pa_cons (pv 3) pa_nil)) (pg_name (i := 7) sc_l_stacks.nd rfl (by first | exact Or.inl rfl | exact Or.inr rfl)) (pss_cons (ps_set (i := 8) sc_l_stacks.nd rfl (by first | exact Or.inl rfl | exact Or.inr rfl) (pe_call (ok_l_number T) (hr.mono (by decide)) (by rfl) T.m_l_number T.F_l_number.kp (bd_l_number T) .nil pass0 (pa_cons (pv 0) (pa_cons (pe_op op_gAdd (pe_op op_gAdd (pv 1) (pe_int)) (pv 7)) pa_nil))))
  (pss_cons (ps_set (i := 9) sc_l_stacks.nd rfl (by first | exact Or.inl rfl | exact Or.inr rfl) (pe_ix ix_seq (pe_lst (pa_cons (pe_int) (pa_cons (pe_int) (pa_cons (pe_int) (pa_cons (pe_int) (pa_cons (pe_op op_gAdd (pe_int) (pe_op op_gMod (pe_op op_gFdv (pv 8) (pe_int)) (pe_int))) pa_nil)))))) (pe_op op_gMod (pv 8) (pe_int)) (fun _ _ => rfl)))
  (pss_cons (ps_set (i := 10) sc_l_stacks.nd rfl (by first | exact Or.inl rfl | exact Or.inr rfl) (pe_ix ix_seq (pe_lst (pa_cons (pe_op op_gAdd (pe_int) (pe_op op_gMod (pe_op op_gFdv (pv 8) (pe_int)) (pe_int))) (pa_cons (pe_op op_gAdd (pe_int) (pe_op op_gMod (pe_op op_gFdv (pv 8) (pe_int)) (pe_int))) (pa_cons (pe_op op_gPow (pe_int) (pe_int)) (pa_cons (pe_op op_gMul (pe_int) (pe_op op_gPow (pe_int) (pe_int))) (pa_cons (pe_int) pa_nil)))))) (pe_op op_gMod (pe_op op_gFdv (pv 8) (pe_int)) (pe_int)) (fun _ _ => rfl)))
  (pss_cons (ps_expr (pe_bm PySem.F.plainAttrs_list PySem.F.slot_list_append PySem.F.type_list_append mt_append (pv 6) (pa_cons (pe_tup (pa_cons (pe_ix ix_seq (pv 4) (pv 7) (fun _ _ => rfl)) (pa_cons (pv 5) (pa_cons (pv 9) (pa_cons (pv 10) pa_nil))))) pa_nil)))
  (pss_one (ps_set (i := 5) sc_l_stacks.nd rfl (by first | exact Or.inl rfl | exact Or.inr rfl) (pe_op op_gAdd (pe_op op_gAdd (pv 5) (pe_int)) (pe_op op_gMul (pe_op op_gMod (pe_op op_gFdv (pv 8) (pe_int)) (pe_int)) (pe_ix ix_seq (pe_lst (pa_cons (pe_int) (pa_cons (pe_int) (pa_cons (pe_op op_gPow (pe_int) (pe_int)) pa_nil)))) (pe_op op_gMod (pe_op op_gFdv (pv 8) (pe_int)) (pe_int)) (fun _ _ => rfl)))))))))))
  (pss_cons (ps_set (i := 11) sc_l_stacks.nd rfl (by first | exact Or.inl rfl | exact Or.inr rfl) (pe_op op_gMod (pe_op op_gFdv (pv 2) (pe_int)) (pv 3)))
  (pss_one (ps_ret (pe_op op_gAdd (pe_slice sl_gSl (pv 6) (po_some (pv 11)) po_none) (pe_slice sl_gSl (pv 6) po_none (po_some (pv 11)))))))))))))
theorem bd_Stacks_init (T : Tx K mg) : Binds K T.d_Stacks_init ["self", "stacks"] [] := T.F_Stacks_init.binds (ps := ["self", "stacks"]) fun _ _ _ _ _ _ us hl => match us, hl with | [_, _], _ => rfl
theorem ok_Stacks_init (T : Tx K mg) : FnOk P w K mg base (L2.CX P w) 4 T.a_Stacks_init T.d_Stacks_init ["self", "stacks"] (sp_Stacks_init K T.A) := by
  refine T.F_Stacks_init.okX sc_Stacks_init (fun vs H Q E h => len_Stacks_init h) (fun cdv A outer s H vs Q E hr h => ?_)
  refine ⟨t_Stacks_init K T.A E, ?_, body_MI (t := t_Stacks_init K T.A) (N := nm_Stacks_init) h (fun x ds M P hR => by rw [ln_Stacks_init hR]; decide) (fun x ds M P E hM hR => rd_Stacks_init K T.Z E hM hR)⟩
  exact (pss_cons (ps_if (pt_not (pt_val (pe_call (ok_are_stacks T) (hr.mono (by decide)) (by rfl) T.m_are_stacks T.F_are_stacks.kp (bd_are_stacks T) .nil pass0 (pa_cons (pv 1) pa_nil)))) (pss_one (ps_raise rfl (takes_of rfl rfl rfl rfl) (pmk_own PySem.F.excBase_ValueError T.x_BadStack T.g_BadStack T.k_BadStack (raises_own T.b_BadStack T.t_BadStack) (by exact rfl)))) pss_nil)
  (pss_cons (ps_fld (pv 0) (pe_dc (own := [("row", 2)]) (g := (gName 2)) (tt := tYes) (by rfl) sc_Stacks_init.nd (pi_list (pv 1)) (blkOk_by (own := [("row", 2)]) (N := nm_Stacks_init) (sc := defScope s_Stacks_init) (by decide +kernel)) (fun _ _ _ _ _ => (pg_name (i := 2) sc_Stacks_init.nd rfl (Or.inl rfl))) (fun _ _ _ _ _ => pts_nil) (fun _ _ _ _ _ => (pe_ix ix_seq (pv 2) (pe_int) (fun _ _ => rfl))) (fun _ _ _ _ _ => (pv 2))) rfl)
  (pss_cons (ps_fld (pv 0) (pe_lock (pe_dc (own := [("name", 3)]) (g := (gName 3)) (tt := tYes) (by rfl) sc_Stacks_init.nd (pi_keys (pe_fld (pv 0) rfl)) (blkOk_by (own := [("name", 3)]) (N := nm_Stacks_init) (sc := defScope s_Stacks_init) (by decide +kernel)) (fun _ _ _ _ _ => (pg_name (i := 3) sc_Stacks_init.nd rfl (Or.inl rfl))) (fun _ _ _ _ _ => pts_nil) (fun _ _ _ _ _ => (pv 3)) (fun _ _ _ _ _ => (pe_lst pa_nil)))) rfl)
  (pss_one (ps_fld (pv 0) (pe_dnewK) rfl)))))
theorem bd_Stacks_is_top (T : Tx K mg) : Binds K T.d_Stacks_is_top ["self", "box"] [] := T.F_Stacks_is_top.binds (ps := ["self", "box"]) fun _ _ _ _ _ _ us hl => match us, hl with | [_, _], _ => rfl
theorem ok_Stacks_is_top (T : Tx K mg) : FnOk P w K mg base (L2.CX P w) 4 T.a_Stacks_is_top T.d_Stacks_is_top ["self", "box"] (sp_Stacks_is_top K T.A) := by
  refine T.F_Stacks_is_top.okX sc_Stacks_is_top (fun vs H Q E h => len_Stacks_is_top h) (fun cdv A outer s H vs Q E hr h => ?_)
  refine ⟨t_Stacks_is_top K T.A E, ?_, body_X (t := t_Stacks_is_top K T.A) (N := nm_Stacks_is_top) h (fun ds d hR => by rw [ln_Stacks_is_top hR]; decide) (fun ds r E hR => rd_Stacks_is_top K T.Z E hR)⟩
  exact (pss_cons (ps_set (i := 2) sc_Stacks_is_top.nd rfl (by first | exact Or.inl rfl | exact Or.inr rfl) (pe_dget (hu1 hr) (pe_fld (pv 0) rfl) (pe_meth (pv 0) T.Z.cl_Stacks T.me_Stacks_where (ok_Stacks_where T) (hr.mono (by decide)) (bd_Stacks_where T) .nil (passes_call (takes_of rfl rfl rfl rfl) (fun _ _ _ _ hh => hh)) (pa_cons (pv 1) pa_nil)) (fun _ _ => rfl)))
  (pss_one (ps_ret (pe_cmpR (op_gEq hr.units) (pe_ix ix_seq (pe_ix ix_seq (pv 2) (pe_un un_neg (pe_int)) (fun _ _ => rfl)) (pe_int) (fun _ _ => rfl)) (pv 1) (nomark _)))))
theorem bd_l_deed (T : Tx K mg) : Binds K T.d_l_deed ["_law_stacks_here", "_law_own", "_law_boxes", "_law_cell"] [] := T.F_l_deed.binds (ps := ["_law_stacks_here", "_law_own", "_law_boxes", "_law_cell"]) fun _ _ _ _ _ _ us hl => match us, hl with | [_, _, _, _], _ => rfl
theorem ok_l_deed (T : Tx K mg) (hsm : ∃ o, base.get? sysModules = some o) : FnG P w K mg base CX0 4 T.a_l_deed T.d_l_deed ["_law_stacks_here", "_law_own", "_law_boxes", "_law_cell"] (sp_l_deed K T.A) := by
  refine fnG_of T.F_l_deed sc_l_deed (fun vs H Q E h => len_l_deed h) (fun cdv A outer s H vs Q E hr h => ?_)
  refine ⟨t_l_deed K T.A, PSs.nox ?_, body_M (t := fun _ => t_l_deed K T.A) (N := nm_l_deed) h (fun ds M P hR => by rw [ln_l_deed hR]; decide) (fun ds M P E hR => rd_l_deed K T.Z E hR)⟩
  exact (pss_cons (ps_set (i := 4) sc_l_deed.nd rfl (by first | exact Or.inl rfl | exact Or.inr rfl) (pe_ix ix_seq (pe_ix ix_seq (pe_dget (hu1 hr.1) (pv 1) (pe_str) (fun _ _ => rfl)) (pe_op op_gMod (pe_op op_gFdv (pv 3) (pe_int)) (pe_callB call_gLen (by rfl) T.b_len (by decide +kernel) (pa_cons (pe_dget (hu1 hr.1) (pv 1) (pe_str) (fun _ _ => rfl)) pa_nil))) (fun _ _ => rfl)) (pe_int) (fun _ _ => rfl)))
  (pss_cons (ps_set (i := 5) sc_l_deed.nd rfl (by first | exact Or.inl rfl | exact Or.inr rfl) (pe_ix ix_seq (pv 2) (pe_op op_gMod (pe_op op_gFdv (pv 3) (pe_int)) (pe_int)) (fun _ _ => rfl)))
  (pss_cons (ps_set (i := 6) sc_l_deed.nd rfl (by first | exact Or.inl rfl | exact Or.inr rfl) (pe_call (ok_l_weight T) (hr.1.mono (by decide)) (by rfl) T.m_l_weight T.F_l_weight.kp (bd_l_weight T) .nil pass0 (pa_cons (pe_op op_gFdv (pv 3) (pe_int)) pa_nil)))
  (pss_cons (ps_if (PW.pt (pw_and (pt_cmpR op_gGt (pe_op op_gMod (pv 3) (pe_int)) (pe_int) (nomark _)) (pw_and1 (pt_val (pe_call (ok_l_may T) (hr.1.mono (by decide)) (by rfl) T.m_l_may T.F_l_may.kp (bd_l_may T) .nil pass0 (pa_cons (pv 1) (pa_cons (pv 5) (pa_cons (pv 6) (pa_cons (pv 4) pa_nil))))))))) (pss_cons (ps_expr (pe_bm PySem.F.plainAttrs_list PySem.F.slot_list_append PySem.F.type_list_append mt_append (pe_dget (hu1 hr.1) (pe_dget (hu1 hr.1) (pv 1) (pe_str) (fun _ _ => rfl)) (pv 4) (fun _ _ => rfl)) (pa_cons (pe_tup (pa_cons (pv 5) (pa_cons (pv 6) pa_nil))) pa_nil)))
  (pss_one (ps_ret (pe_cmpR op_gIs (pe_meth (pv 0) T.Z.cl_Stacks T.me_Stacks_put (ok_Stacks_put T) (hr.1.mono (by decide)) (bd_Stacks_put T) .nil passL (pa_cons (pv 5) (pa_cons (pv 6) (pa_cons (pv 4) pa_nil)))) (pe_non) (nomark _))))) pss_nil)
  (pss_cons (ps_if (pt_cmpR (op_gEq hr.1.units) (pe_dget (hu1 hr.1) (pe_dget (hu1 hr.1) (pv 1) (pe_str) (fun _ _ => rfl)) (pv 4) (fun _ _ => rfl)) (pe_lst pa_nil) (nomark _)) (pss_one (ps_ret (pe_bl))) pss_nil)
  (pss_one (ps_ret (pe_cmpR (op_gEq hr.1.units) (pe_callB (call_gReprA hr.2 hr.1.units hsm) (by rfl) T.b_repr (by decide +kernel) (pa_cons (pe_meth (pv 0) T.Z.cl_Stacks T.me_Stacks_take (ok_Stacks_take T) (hr.1.mono (by decide)) (bd_Stacks_take T) .nil passL (pa_cons (pv 4) pa_nil)) pa_nil)) (pe_callB (call_gReprA hr.2 hr.1.units hsm) (by rfl) T.b_repr (by decide +kernel) (pa_cons (pe_bm0 PySem.F.plainAttrs_list PySem.F.slot_list_pop PySem.F.type_list_pop mt_pop (pe_dget (hu1 hr.1) (pe_dget (hu1 hr.1) (pv 1) (pe_str) (fun _ _ => rfl)) (pv 4) (fun _ _ => rfl))) pa_nil)) (nomark _)))))))))
theorem bd_l_right (T : Tx K mg) : Binds K T.d_l_right ["_law_stacks_here", "_law_own", "_law_boxes", "_law_cell"] [] := T.F_l_right.binds (ps := ["_law_stacks_here", "_law_own", "_law_boxes", "_law_cell"]) fun _ _ _ _ _ _ us hl => match us, hl with | [_, _, _, _], _ => rfl
theorem ok_l_right (T : Tx K mg) (hsm : ∃ o, base.get? sysModules = some o) : FnG P w K mg base CX0 5 T.a_l_right T.d_l_right ["_law_stacks_here", "_law_own", "_law_boxes", "_law_cell"] (sp_l_right K T.A) := by
  refine fnG_of T.F_l_right sc_l_right (fun vs H Q E h => len_l_right h) (fun cdv A outer s H vs Q E hr h => ?_)
  refine ⟨t_l_right K T.A, PSs.nox ?_, body_D (N := nm_l_right) h (fun ds d hR => by rw [ln_l_right hR]; decide) (fun ds d hR => rd_l_right K T.Z hR)⟩
  exact (pss_cons (ps_set (i := 4) sc_l_right.nd rfl (by first | exact Or.inl rfl | exact Or.inr rfl) (pe_ix ix_seq (pe_dget (hu1 hr.1) (pv 1) (pe_str) (fun _ _ => rfl)) (pe_op op_gMod (pe_op op_gFdv (pv 3) (pe_int)) (pe_callB call_gLen (by rfl) T.b_len (by decide +kernel) (pa_cons (pe_dget (hu1 hr.1) (pv 1) (pe_str) (fun _ _ => rfl)) pa_nil))) (fun _ _ => rfl)))
  (pss_cons (ps_set (i := 5) sc_l_right.nd rfl (by first | exact Or.inl rfl | exact Or.inr rfl) (pe_lst (pa_cons (pe_meth (pv 0) T.Z.cl_Stacks T.me_Stacks_place_of (ok_Stacks_place_of T) (hr.1.mono (by decide)) (bd_Stacks_place_of T) .nil passL (pa_cons (pe_ix ix_seq (pv 4) (pe_int) (fun _ _ => rfl)) pa_nil)) (pa_cons (pe_meth (pv 0) T.Z.cl_Stacks T.me_Stacks_high (ok_Stacks_high T) (hr.1.mono (by decide)) (bd_Stacks_high T) .nil passL (pa_cons (pe_ix ix_seq (pv 4) (pe_int) (fun _ _ => rfl)) pa_nil)) (pa_cons (pe_meth (pv 0) T.Z.cl_Stacks T.me_Stacks_weight (ok_Stacks_weight T) (hr.1.mono (by decide)) (bd_Stacks_weight T) .nil passL (pa_cons (pe_ix ix_seq (pv 4) (pe_int) (fun _ _ => rfl)) pa_nil)) pa_nil)))))
  (pss_cons (ps_if (pt_cmpR (op_gNe hr.1.units) (pe_callB (call_gReprA hr.2 hr.1.units hsm) (by rfl) T.b_repr (by decide +kernel) (pa_cons (pv 5) pa_nil)) (pe_callB (call_gReprA hr.2 hr.1.units hsm) (by rfl) T.b_repr (by decide +kernel) (pa_cons (pe_callTy call_gList (by rfl) T.b_list (by decide +kernel) (pa_cons (pe_slice sl_tup (pv 4) (po_some (pe_int)) po_none) pa_nil)) pa_nil)) (nomark _)) (pss_one (ps_ret (pe_bl))) pss_nil)
  (pss_cons (ps_for PassesOwn.never rfl (pi_range1 (by rfl) T.b_range (pa_cons (pe_int) pa_nil)) (pg_name (i := 6) sc_l_right.nd rfl (by first | exact Or.inl rfl | exact Or.inr rfl)) (pss_cons (ps_par (i := 7) (j := 8) (by rfl) sc_l_right.nd rfl rfl (by decide) rfl rfl (pa_cons (pe_meth0 (pv 0) T.Z.cl_Stacks T.me_Stacks_names (ok_Stacks_names T) (hr.1.mono (by decide)) (bd_Stacks_names T) .nil pass0) (pa_cons (pe_meth (pv 0) T.Z.cl_Stacks T.me_Stacks_boxes (ok_Stacks_boxes T) (hr.1.mono (by decide)) (bd_Stacks_boxes T) .nil pass0 (pa_cons (pe_ix ix_seq (pv 4) (pe_int) (fun _ _ => rfl)) pa_nil)) pa_nil)) (by rfl))
  (pss_cons (ps_if (PW.pt (pw_or (pt_cmpR (op_gNe hr.1.units) (pe_callB (call_gReprA hr.2 hr.1.units hsm) (by rfl) T.b_repr (by decide +kernel) (pa_cons (pv 7) pa_nil)) (pe_callB (call_gReprA hr.2 hr.1.units hsm) (by rfl) T.b_repr (by decide +kernel) (pa_cons (pe_callB cr_sortedS (by rfl) T.b_sorted (by decide +kernel) (pa_cons (pe_lc (own := [("_law_one", 9)]) (g := (gName 9)) (tt := tYes) (by rfl) sc_l_right.nd (pi_list (pe_dget (hu1 hr.1) (pv 1) (pe_str) (fun _ _ => rfl))) (blkOk_by (own := [("_law_one", 9)]) (N := nm_l_right) (sc := defScope s_l_right) (by decide +kernel)) (fun _ _ _ _ _ => (pg_name (i := 9) sc_l_right.nd rfl (Or.inl rfl))) (fun _ _ _ _ _ => pts_nil) (fun _ _ _ _ _ => (pe_ix ix_seq (pv 9) (pe_int) (fun _ _ => rfl)))) pa_nil)) pa_nil)) (nomark _)) (pw_or1 (pt_cmpR (op_gNe hr.1.units) (pe_callB (call_gReprA hr.2 hr.1.units hsm) (by rfl) T.b_repr (by decide +kernel) (pa_cons (pv 8) pa_nil)) (pe_callB (call_gReprA hr.2 hr.1.units hsm) (by rfl) T.b_repr (by decide +kernel) (pa_cons (pe_dget (hu1 hr.1) (pe_dget (hu1 hr.1) (pv 1) (pe_str) (fun _ _ => rfl)) (pe_ix ix_seq (pv 4) (pe_int) (fun _ _ => rfl)) (fun _ _ => rfl)) pa_nil)) (nomark _))))) (pss_one (ps_ret (pe_bl))) pss_nil)
  (pss_cons (ps_expr (pe_bm PySem.F.plainAttrs_list PySem.F.slot_list_append PySem.F.type_list_append mt_append (pv 7) (pa_cons (pe_str) pa_nil)))
  (pss_one (ps_expr (pe_bm PySem.F.plainAttrs_list PySem.F.slot_list_append PySem.F.type_list_append mt_append (pv 8) (pa_cons (pe_str) pa_nil))))))))
  (pss_cons (ps_set (i := 10) sc_l_right.nd rfl (by first | exact Or.inl rfl | exact Or.inr rfl) (pe_ix ix_seq (pv 2) (pe_op op_gMod (pe_op op_gFdv (pv 3) (pe_int)) (pe_int)) (fun _ _ => rfl)))
  (pss_cons (ps_set (i := 11) sc_l_right.nd rfl (by first | exact Or.inl rfl | exact Or.inr rfl) (pe_call (ok_l_where T) (hr.1.mono (by decide)) (by rfl) T.m_l_where T.F_l_where.kp (bd_l_where T) .nil pass0 (pa_cons (pv 1) (pa_cons (pv 10) pa_nil))))
  (pss_cons (ps_if (pt_cmpR op_gIs (pv 11) (pe_non) (nomark _)) (pss_one (ps_ret (pe_bl))) pss_nil)
  (pss_one (ps_ret (pe_cmpR (op_gEq hr.1.units) (pe_callB (call_gReprA hr.2 hr.1.units hsm) (by rfl) T.b_repr (by decide +kernel) (pa_cons (pe_lst (pa_cons (pe_meth (pv 0) T.Z.cl_Stacks T.me_Stacks_where (ok_Stacks_where T) (hr.1.mono (by decide)) (bd_Stacks_where T) .nil passL (pa_cons (pv 10) pa_nil)) (pa_cons (pe_meth (pv 0) T.Z.cl_Stacks T.me_Stacks_is_top (ok_Stacks_is_top T) (hr.1.mono (by decide)) (bd_Stacks_is_top T) .nil passL (pa_cons (pv 10) pa_nil)) pa_nil))) pa_nil)) (pe_callB (call_gReprA hr.2 hr.1.units hsm) (by rfl) T.b_repr (by decide +kernel) (pa_cons (pe_lst (pa_cons (pv 11) (pa_cons (pe_cmpR (op_gEq hr.1.units) (pe_ix ix_seq (pe_ix ix_seq (pe_dget (hu1 hr.1) (pe_dget (hu1 hr.1) (pv 1) (pe_str) (fun _ _ => rfl)) (pv 11) (fun _ _ => rfl)) (pe_un un_neg (pe_int)) (fun _ _ => rfl)) (pe_int) (fun _ _ => rfl)) (pv 10) (nomark _)) pa_nil))) pa_nil)) (nomark _)))))))))))
theorem bd_Stacks_copied (T : Tx K mg) : Binds K T.d_Stacks_copied ["self"] [] := T.F_Stacks_copied.binds (ps := ["self"]) fun _ _ _ _ _ _ us hl => match us, hl with | [_], _ => rfl
theorem ok_Stacks_copied (T : Tx K mg) : FnOk P w K mg base CX0 6 T.a_Stacks_copied T.d_Stacks_copied ["self"] (sp_Stacks_copied K T.A) := by
  refine T.F_Stacks_copied.ok sc_Stacks_copied (fun vs H Q E h => len_Stacks_copied h) (fun cdv A outer s H vs Q E hr h => ?_)
  refine ⟨t_Stacks_copied K T.A, ?_, body_M (t := fun _ => t_Stacks_copied K T.A) (N := nm_Stacks_copied) h (fun ds M P hR => by rw [ln_Stacks_copied hR]; decide) (fun ds M P E hR => rd_Stacks_copied K T.Z E hR)⟩
  exact (pss_cons (ps_set (i := 1) sc_Stacks_copied.nd rfl (by first | exact Or.inl rfl | exact Or.inr rfl) (pe_make T.mk_Stacks (ok_Stacks_init T) (hr.mono (by decide)) (by rfl) T.g_Stacks (bd_Stacks_init T) .nil passL (pa_cons (pe_slice sl_gSl (pe_listVals rfl (by rfl) T.b_list ((pe_fld (pv 0) rfl))) po_none (po_some (pe_int))) pa_nil)))
  (pss_cons (ps_fld (pv 1) (pe_fld (pv 0) rfl) rfl)
  (pss_cons (ps_fld (pv 1) (pe_lock (pe_dc (own := [("name", 2), ("pile", 3)]) (g := (gTup K 2 (gCons (gName 2) (gCons (gName 3) gNil)))) (tt := tYes) (by rfl) sc_Stacks_copied.nd (pi_items (pe_fld (pv 0) rfl)) (blkOk_by (own := [("name", 2), ("pile", 3)]) (N := nm_Stacks_copied) (sc := defScope s_Stacks_copied) (by decide +kernel)) (fun _ _ _ _ _ => (pg_tup rfl (pgs_cons (pg_name (i := 2) sc_Stacks_copied.nd rfl (Or.inl rfl)) (pgs_cons (pg_name (i := 3) sc_Stacks_copied.nd rfl (Or.inl rfl)) pgs_nil)))) (fun _ _ _ _ _ => pts_nil) (fun _ _ _ _ _ => (pv 2)) (fun _ _ _ _ _ => (pe_callTy call_gList (by rfl) T.b_list (by decide +kernel) (pa_cons (pv 3) pa_nil))))) rfl)
  (pss_cons (ps_fld (pv 1) (pe_callTy call_gDictD (by rfl) T.b_dict (by decide +kernel) (pa_cons (pe_fld (pv 0) rfl) pa_nil)) rfl)
  (pss_one (ps_ret (pv 1)))))))
theorem bd_law (T : Tx K mg) : Binds K T.d_law ["_law_script"] [] := T.F_law.binds (ps := ["_law_script"]) fun _ _ _ _ _ _ us hl => match us, hl with | [_], _ => rfl
theorem ok_law (T : Tx K mg) (hsm : ∃ o, base.get? sysModules = some o) : FnG P w K mg base CX0 7 T.a_law T.d_law ["_law_script"] (sp_law K) := by
  refine fnG_of T.F_law sc_law (fun vs H Q E h => len_law h) (fun cdv A outer s H vs Q E hr h => ?_)
  refine ⟨t_law K T.A, PSs.nox ?_, body_M (t := fun _ => t_law K T.A) (N := nm_law) h (fun ds M P hR => by rw [ln_law hR]; decide) (fun ds M P E hR => rd_law K T.Z E hR)⟩
  exact (pss_cons (ps_set (i := 1) sc_law.nd rfl (by first | exact Or.inl rfl | exact Or.inr rfl) (pe_call (ok_l_stacks T) (hr.1.mono (by decide)) (by rfl) T.m_l_stacks T.F_l_stacks.kp (bd_l_stacks T) .nil pass0 (pa_cons (pv 0) (pa_cons (pe_int) pa_nil))))
  (pss_cons (ps_set (i := 2) sc_law.nd rfl (by first | exact Or.inl rfl | exact Or.inr rfl) (pe_call (ok_l_names T) (hr.1.mono (by decide)) (by rfl) T.m_l_names T.F_l_names.kp (bd_l_names T) .nil pass0 (pa_cons (pe_call (ok_l_number T) (hr.1.mono (by decide)) (by rfl) T.m_l_number T.F_l_number.kp (bd_l_number T) .nil pass0 (pa_cons (pv 0) (pa_cons (pe_int) pa_nil))) (pa_cons (pe_int) pa_nil))))
  (pss_cons (ps_set (i := 3) sc_law.nd rfl (by first | exact Or.inl rfl | exact Or.inr rfl) (pe_callTy call_gList (by rfl) T.b_list (by decide +kernel) (pa_cons (pv 1) pa_nil)))
  (pss_cons (ps_set (i := 4) sc_law.nd rfl (by first | exact Or.inl rfl | exact Or.inr rfl) (pe_make T.mk_Stacks (ok_Stacks_init T) (hr.1.mono (by decide)) (by rfl) T.g_Stacks (bd_Stacks_init T) .nil passL (pa_cons (pv 3) pa_nil)))
  (pss_cons (ps_expr (pe_bm0 PySem.F.plainAttrs_list PySem.F.slot_list_clear PySem.F.type_list_clear mt_clear (pv 3)))
  (pss_cons (ps_set (i := 5) sc_law.nd rfl (by first | exact Or.inl rfl | exact Or.inr rfl) (pe_call (ok_l_new T) (hr.1.mono (by decide)) (by rfl) T.m_l_new T.F_l_new.kp (bd_l_new T) .nil pass0 (pa_cons (pv 1) pa_nil)))
  (pss_cons (ps_set (i := 6) sc_law.nd rfl (by first | exact Or.inl rfl | exact Or.inr rfl) (pe_lst pa_nil))
  (pss_cons (ps_for PassesOwn.never rfl (pi_range1 (by rfl) T.b_range (pa_cons (pe_op op_gAdd (pe_int) (pe_callB (call_gMin rfl) (by rfl) T.b_min (by decide +kernel) (pa_cons (pe_int) (pa_cons (pe_callB call_gLen (by rfl) T.b_len (by decide +kernel) (pa_cons (pv 0) pa_nil)) pa_nil)))) pa_nil)) (pg_name (i := 7) sc_law.nd rfl (by first | exact Or.inl rfl | exact Or.inr rfl)) (pss_cons (ps_set (i := 8) sc_law.nd rfl (by first | exact Or.inl rfl | exact Or.inr rfl) (pe_call (ok_l_number T) (hr.1.mono (by decide)) (by rfl) T.m_l_number T.F_l_number.kp (bd_l_number T) .nil pass0 (pa_cons (pv 0) (pa_cons (pv 7) pa_nil))))
  (pss_cons (ps_if (PW.pt (pw_or (pt_not (pt_val (pe_callG (ok_l_deed T hsm) (Calm.mono hr (by decide)) (by rfl) T.m_l_deed T.F_l_deed.kp (bd_l_deed T) pass0 (pa_cons (pv 4) (pa_cons (pv 5) (pa_cons (pv 2) (pa_cons (pv 8) pa_nil))))))) (pw_or1 (pt_not (pt_val (pe_callG (ok_l_right T hsm) (Calm.mono hr (by decide)) (by rfl) T.m_l_right T.F_l_right.kp (bd_l_right T) pass0 (pa_cons (pv 4) (pa_cons (pv 5) (pa_cons (pv 2) (pa_cons (pv 8) pa_nil)))))))))) (pss_one (ps_ret (pe_bl))) pss_nil)
  (pss_one (ps_if (pt_cmpR (op_gEq hr.1.units) (pe_op op_gMod (pe_op op_gFdv (pv 8) (pe_int)) (pe_int)) (pe_int) (nomark _)) (pss_cons (ps_set (i := 9) sc_law.nd rfl (by first | exact Or.inl rfl | exact Or.inr rfl) (pe_meth0 (pv 4) T.Z.cl_Stacks T.me_Stacks_copied (ok_Stacks_copied T) (hr.1.mono (by decide)) (bd_Stacks_copied T) .nil pass0))
  (pss_cons (ps_expr (pe_bm PySem.F.plainAttrs_list PySem.F.slot_list_append PySem.F.type_list_append mt_append (pv 6) (pa_cons (pe_tup (pa_cons (pv 4) (pa_cons (pe_call (ok_l_kept T) (hr.1.mono (by decide)) (by rfl) T.m_l_kept T.F_l_kept.kp (bd_l_kept T) .nil pass0 (pa_cons (pv 5) pa_nil)) pa_nil))) pa_nil)))
  (pss_one (ps_set (i := 4) sc_law.nd rfl (by first | exact Or.inl rfl | exact Or.inr rfl) (pv 9))))) pss_nil)))))
  (pss_cons (ps_for PassesOwn.never rfl (pi_enum (by rfl) T.b_enumerate (pa_cons (pv 6) pa_nil)) (pg_tup rfl (pgs_cons (pg_name (i := 7) sc_law.nd rfl (by first | exact Or.inl rfl | exact Or.inr rfl)) (pgs_cons (pg_tup rfl (pgs_cons (pg_name (i := 9) sc_law.nd rfl (by first | exact Or.inl rfl | exact Or.inr rfl)) (pgs_cons (pg_name (i := 10) sc_law.nd rfl (by first | exact Or.inl rfl | exact Or.inr rfl)) pgs_nil))) pgs_nil))) (pss_one (ps_if (pt_not (pt_val (pe_callB (cr_all rfl) (by rfl) T.b_all (by decide +kernel) (pa_cons (pe_lc (own := [("_law_j", 11)]) (g := (gName 11)) (tt := tYes) (by rfl) sc_law.nd (pi_range1 (by rfl) T.b_range (pa_cons (pe_callB call_gLen (by rfl) T.b_len (by decide +kernel) (pa_cons (pv 1) pa_nil)) pa_nil)) (blkOk_by (own := [("_law_j", 11)]) (N := nm_law) (sc := defScope s_law) (by decide +kernel)) (fun _ _ _ _ _ => (pg_name (i := 11) sc_law.nd rfl (Or.inl rfl))) (fun _ _ _ _ _ => pts_nil) (fun _ _ _ _ _ => (pe_callG (ok_l_right T hsm) (Calm.mono hr (by decide)) (by rfl) T.m_l_right T.F_l_right.kp (bd_l_right T) pass0 (pa_cons (pv 9) (pa_cons (pv 10) (pa_cons (pv 2) (pa_cons (pe_op op_gAdd (pe_op op_gMul (pe_int) (pv 11)) (pe_op op_gMul (pe_op op_gMul (pe_int) (pe_int)) (pv 7))) pa_nil))))))) pa_nil)))) (pss_one (ps_ret (pe_bl))) pss_nil)))
  (pss_one (ps_ret (pe_cmpR (op_gEq hr.1.units) (pe_lc (own := [("_law_one", 12)]) (g := (gName 12)) (tt := (tTest (tOp (gNe K) (tCB (gReprA K) (tCons (tMeth T.A.c_Stacks "boxes" (sp_Stacks_boxes K T.A) [] E0 (tVar 4) (tCons (tOp (gIx K) (tVar 12) (tC (.int 0))) tNil)) tNil)) (tCB (gReprA K) (tCons (tDGet (tDGet (tVar 5) (tC (.str ("piles" : Str)))) (tOp (gIx K) (tVar 12) (tC (.int 0)))) tNil))))) (by rfl) sc_law.nd (pi_list (pe_dget (hu1 hr.1) (pv 5) (pe_str) (fun _ _ => rfl))) (blkOk_by (own := [("_law_one", 12)]) (N := nm_law) (sc := defScope s_law) (by decide +kernel)) (fun _ _ _ _ _ => (pg_name (i := 12) sc_law.nd rfl (Or.inl rfl))) (fun _ _ _ _ _ => (pts_one (pt_cmpR (op_gNe hr.1.units) (pe_callB (call_gReprA hr.2 hr.1.units hsm) (by rfl) T.b_repr (by decide +kernel) (pa_cons (pe_meth (pv 4) T.Z.cl_Stacks T.me_Stacks_boxes (ok_Stacks_boxes T) (hr.1.mono (by decide)) (bd_Stacks_boxes T) .nil pass0 (pa_cons (pe_ix ix_seq (pv 12) (pe_int) (fun _ _ => rfl)) pa_nil)) pa_nil)) (pe_callB (call_gReprA hr.2 hr.1.units hsm) (by rfl) T.b_repr (by decide +kernel) (pa_cons (pe_dget (hu1 hr.1) (pe_dget (hu1 hr.1) (pv 5) (pe_str) (fun _ _ => rfl)) (pe_ix ix_seq (pv 12) (pe_int) (fun _ _ => rfl)) (fun _ _ => rfl)) pa_nil)) (nomark _)))) (fun _ _ _ _ _ => (pv 12))) (pe_lst pa_nil) (nomark _)))))))))))))
end
theorem all_mk {l : PySem.W.OpenLaw} {w : World} {K : PySem.W.Frag} {h : Heap} {mg : Str → Option Value} {fa : Addr} (X : K.In h) (G : h.Ns mainGlobals mg) (hfa : mg "law" = some (.ref fa))
    {f0 f1 f2 f3 f4 f5 f6 f7 f8 f9 f10 f11 f12 f13 f14 f15 f16 f17 f18 f19 f20 f21 f22 f23 f24 f25 f26 f27 f28 f29 f30 c_Stacks c_CraneError c_BadName c_BadNumber c_BadStack c_Twice c_NoStack c_NoBox c_TooHigh c_TooHeavy c_Empty : Addr}
    {od0 an0 od1 an1 od2 an2 od3 an3 od4 an4 od5 an5 od6 an6 od7 an7 od8 an8 od9 an9 od10 an10 od11 an11 od12 an12 od13 an13 od14 an14 od15 an15 od16 an16 od17 an17 od18 an18 od19 an19 od20 an20 od21 an21 od22 an22 od23 an23 od24 an24 od25 an25 od26 an26 od27 an27 od28 an28 od29 an29 od30 an30 : Option Addr} {sl0 sl1 sl2 sl3 sl4 sl5 sl6 sl7 sl8 sl9 sl10 sl11 sl12 sl13 sl14 sl15 sl16 sl17 sl18 sl19 sl20 sl21 sl22 sl23 sl24 sl25 sl26 sl27 sl28 sl29 sl30 : Array (Option Value)} {oc0 kV0 dc0 pm0 cd0 ct0 oc1 kV1 dc1 pm1 cd1 ct1 oc2 kV2 dc2 pm2 cd2 ct2 oc3 kV3 dc3 pm3 cd3 ct3 oc4 kV4 dc4 pm4 cd4 ct4 oc5 kV5 dc5 pm5 cd5 ct5 oc6 kV6 dc6 pm6 cd6 ct6 oc7 kV7 dc7 pm7 cd7 ct7 oc8 kV8 dc8 pm8 cd8 ct8 oc9 kV9 dc9 pm9 cd9 ct9 oc10 kV10 dc10 pm10 cd10 ct10 oc11 kV11 dc11 pm11 cd11 ct11 oc12 kV12 dc12 pm12 cd12 ct12 oc13 kV13 dc13 pm13 cd13 ct13 oc14 kV14 dc14 pm14 cd14 ct14 oc15 kV15 dc15 pm15 cd15 ct15 oc16 kV16 dc16 pm16 cd16 ct16 oc17 kV17 dc17 pm17 cd17 ct17 oc18 kV18 dc18 pm18 cd18 ct18 oc19 kV19 dc19 pm19 cd19 ct19 oc20 kV20 dc20 pm20 cd20 ct20 oc21 kV21 dc21 pm21 cd21 ct21 oc22 kV22 dc22 pm22 cd22 ct22 oc23 kV23 dc23 pm23 cd23 ct23 oc24 kV24 dc24 pm24 cd24 ct24 oc25 kV25 dc25 pm25 cd25 ct25 oc26 kV26 dc26 pm26 cd26 ct26 oc27 kV27 dc27 pm27 cd27 ct27 oc28 kV28 dc28 pm28 cd28 ct28 oc29 kV29 dc29 pm29 cd29 ct29 oc30 kV30 dc30 pm30 cd30 ct30 : Value}
    (ac_Stacks : PySem.W.nsIn K mainGlobals "Stacks" = some (some (.ref c_Stacks))) (pg_Stacks : PySem.W.plainGet K c_Stacks Str.empty = true) (hd_Stacks : PySem.W.hasDictIn K c_Stacks = true) (po_Stacks : PySem.W.plainOver K c_Stacks = true) (sa_Stacks : PySem.W.findIn K (.ref c_Stacks) "__setattr__" = some (some (.builtin "object.__setattr__"))) (mk_Stacks : PySem.W.makesIn K c_Stacks = true) (kc_Stacks : PySem.W.keepIn K (.ref c_Stacks) = true)
    (nf_Stacks__told : PySem.W.findIn K (.ref c_Stacks) "_told" = some none)
    (nf_Stacks__piles : PySem.W.findIn K (.ref c_Stacks) "_piles" = some none)
    (nf_Stacks__lying : PySem.W.findIn K (.ref c_Stacks) "_lying" = some none)
    (ac_CraneError : PySem.W.nsIn K mainGlobals "CraneError" = some (some (.ref c_CraneError)))
    (ac_BadName : PySem.W.nsIn K mainGlobals "BadName" = some (some (.ref c_BadName)))
    (ac_BadNumber : PySem.W.nsIn K mainGlobals "BadNumber" = some (some (.ref c_BadNumber)))
    (ac_BadStack : PySem.W.nsIn K mainGlobals "BadStack" = some (some (.ref c_BadStack)))
    (ac_Twice : PySem.W.nsIn K mainGlobals "Twice" = some (some (.ref c_Twice)))
    (ac_NoStack : PySem.W.nsIn K mainGlobals "NoStack" = some (some (.ref c_NoStack)))
    (ac_NoBox : PySem.W.nsIn K mainGlobals "NoBox" = some (some (.ref c_NoBox)))
    (ac_TooHigh : PySem.W.nsIn K mainGlobals "TooHigh" = some (some (.ref c_TooHigh)))
    (ac_TooHeavy : PySem.W.nsIn K mainGlobals "TooHeavy" = some (some (.ref c_TooHeavy)))
    (ac_Empty : PySem.W.nsIn K mainGlobals "Empty" = some (some (.ref c_Empty)))
    (x_BadStack : PySem.W.excIn K c_BadStack [.type "ValueError", .type "Exception", .type "BaseException", .type "object"] "ValueError.__new__" = true) (xk_BadStack : PySem.W.keepIn K (.ref c_BadStack) = true) (xb_BadStack : PySem.W.subIn K (.ref c_BadStack) (.type "BaseException") = some true) (xt_BadStack : PySem.W.typeIn K (.ref c_BadStack) = some (.type "type"))
    (x_BadName : PySem.W.excIn K c_BadName [.type "ValueError", .type "Exception", .type "BaseException", .type "object"] "ValueError.__new__" = true) (xk_BadName : PySem.W.keepIn K (.ref c_BadName) = true) (xb_BadName : PySem.W.subIn K (.ref c_BadName) (.type "BaseException") = some true) (xt_BadName : PySem.W.typeIn K (.ref c_BadName) = some (.type "type"))
    (x_BadNumber : PySem.W.excIn K c_BadNumber [.type "ValueError", .type "Exception", .type "BaseException", .type "object"] "ValueError.__new__" = true) (xk_BadNumber : PySem.W.keepIn K (.ref c_BadNumber) = true) (xb_BadNumber : PySem.W.subIn K (.ref c_BadNumber) (.type "BaseException") = some true) (xt_BadNumber : PySem.W.typeIn K (.ref c_BadNumber) = some (.type "type"))
    (x_NoStack : PySem.W.excIn K c_NoStack [.type "ValueError", .type "Exception", .type "BaseException", .type "object"] "ValueError.__new__" = true) (xk_NoStack : PySem.W.keepIn K (.ref c_NoStack) = true) (xb_NoStack : PySem.W.subIn K (.ref c_NoStack) (.type "BaseException") = some true) (xt_NoStack : PySem.W.typeIn K (.ref c_NoStack) = some (.type "type"))
    (x_Twice : PySem.W.excIn K c_Twice [.type "ValueError", .type "Exception", .type "BaseException", .type "object"] "ValueError.__new__" = true) (xk_Twice : PySem.W.keepIn K (.ref c_Twice) = true) (xb_Twice : PySem.W.subIn K (.ref c_Twice) (.type "BaseException") = some true) (xt_Twice : PySem.W.typeIn K (.ref c_Twice) = some (.type "type"))
    (x_TooHigh : PySem.W.excIn K c_TooHigh [.type "ValueError", .type "Exception", .type "BaseException", .type "object"] "ValueError.__new__" = true) (xk_TooHigh : PySem.W.keepIn K (.ref c_TooHigh) = true) (xb_TooHigh : PySem.W.subIn K (.ref c_TooHigh) (.type "BaseException") = some true) (xt_TooHigh : PySem.W.typeIn K (.ref c_TooHigh) = some (.type "type"))
    (x_TooHeavy : PySem.W.excIn K c_TooHeavy [.type "ValueError", .type "Exception", .type "BaseException", .type "object"] "ValueError.__new__" = true) (xk_TooHeavy : PySem.W.keepIn K (.ref c_TooHeavy) = true) (xb_TooHeavy : PySem.W.subIn K (.ref c_TooHeavy) (.type "BaseException") = some true) (xt_TooHeavy : PySem.W.typeIn K (.ref c_TooHeavy) = some (.type "type"))
    (x_Empty : PySem.W.excIn K c_Empty [.type "ValueError", .type "Exception", .type "BaseException", .type "object"] "ValueError.__new__" = true) (xk_Empty : PySem.W.keepIn K (.ref c_Empty) = true) (xb_Empty : PySem.W.subIn K (.ref c_Empty) (.type "BaseException") = some true) (xt_Empty : PySem.W.typeIn K (.ref c_Empty) = some (.type "type"))
    (x_NoBox : PySem.W.excIn K c_NoBox [.type "ValueError", .type "Exception", .type "BaseException", .type "object"] "ValueError.__new__" = true) (xk_NoBox : PySem.W.keepIn K (.ref c_NoBox) = true) (xb_NoBox : PySem.W.subIn K (.ref c_NoBox) (.type "BaseException") = some true) (xt_NoBox : PySem.W.typeIn K (.ref c_NoBox) = some (.type "type"))
    (a0 : PySem.W.nsIn K mainGlobals "is_name" = some (some (.ref f0))) (l0 : K.lookup f0 = some ⟨oc0, od0, .func (PySem.W.fnOf "is_name" "is_name" (defArgs s_is_name) (defBody s_is_name) (defScope s_is_name) .none kV0 dc0 pm0 an0 cd0 ct0), sl0⟩) (c0 : PySem.W.codeIn K cd0 "is_name" = true) (k0 : PySem.W.keepIn K (.ref f0) = true)
    (a1 : PySem.W.nsIn K mainGlobals "is_among" = some (some (.ref f1))) (l1 : K.lookup f1 = some ⟨oc1, od1, .func (PySem.W.fnOf "is_among" "is_among" (defArgs s_is_among) (defBody s_is_among) (defScope s_is_among) .none kV1 dc1 pm1 an1 cd1 ct1), sl1⟩) (c1 : PySem.W.codeIn K cd1 "is_among" = true) (k1 : PySem.W.keepIn K (.ref f1) = true)
    (a2 : PySem.W.findIn K (.ref c_Stacks) "__init__" = some (some (.ref f2))) (i2 : PySem.W.isFn K (.ref f2) = true) (l2 : K.lookup f2 = some ⟨oc2, od2, .func (PySem.W.fnOf "__init__" "Stacks.__init__" (defArgs s_Stacks_init) (defBody s_Stacks_init) (defScope s_Stacks_init) .none kV2 dc2 pm2 an2 cd2 ct2), sl2⟩) (c2 : PySem.W.codeIn K cd2 "Stacks.__init__" = true) (k2 : PySem.W.keepIn K (.ref f2) = true)
    (a3 : PySem.W.findIn K (.ref c_Stacks) "names" = some (some (.ref f3))) (i3 : PySem.W.isFn K (.ref f3) = true) (l3 : K.lookup f3 = some ⟨oc3, od3, .func (PySem.W.fnOf "names" "Stacks.names" (defArgs s_Stacks_names) (defBody s_Stacks_names) (defScope s_Stacks_names) .none kV3 dc3 pm3 an3 cd3 ct3), sl3⟩) (c3 : PySem.W.codeIn K cd3 "Stacks.names" = true) (k3 : PySem.W.keepIn K (.ref f3) = true)
    (a4 : PySem.W.findIn K (.ref c_Stacks) "place_of" = some (some (.ref f4))) (i4 : PySem.W.isFn K (.ref f4) = true) (l4 : K.lookup f4 = some ⟨oc4, od4, .func (PySem.W.fnOf "place_of" "Stacks.place_of" (defArgs s_Stacks_place_of) (defBody s_Stacks_place_of) (defScope s_Stacks_place_of) .none kV4 dc4 pm4 an4 cd4 ct4), sl4⟩) (c4 : PySem.W.codeIn K cd4 "Stacks.place_of" = true) (k4 : PySem.W.keepIn K (.ref f4) = true)
    (a5 : PySem.W.findIn K (.ref c_Stacks) "high" = some (some (.ref f5))) (i5 : PySem.W.isFn K (.ref f5) = true) (l5 : K.lookup f5 = some ⟨oc5, od5, .func (PySem.W.fnOf "high" "Stacks.high" (defArgs s_Stacks_high) (defBody s_Stacks_high) (defScope s_Stacks_high) .none kV5 dc5 pm5 an5 cd5 ct5), sl5⟩) (c5 : PySem.W.codeIn K cd5 "Stacks.high" = true) (k5 : PySem.W.keepIn K (.ref f5) = true)
    (a6 : PySem.W.findIn K (.ref c_Stacks) "weight" = some (some (.ref f6))) (i6 : PySem.W.isFn K (.ref f6) = true) (l6 : K.lookup f6 = some ⟨oc6, od6, .func (PySem.W.fnOf "weight" "Stacks.weight" (defArgs s_Stacks_weight) (defBody s_Stacks_weight) (defScope s_Stacks_weight) .none kV6 dc6 pm6 an6 cd6 ct6), sl6⟩) (c6 : PySem.W.codeIn K cd6 "Stacks.weight" = true) (k6 : PySem.W.keepIn K (.ref f6) = true)
    (a7 : PySem.W.findIn K (.ref c_Stacks) "boxes" = some (some (.ref f7))) (i7 : PySem.W.isFn K (.ref f7) = true) (l7 : K.lookup f7 = some ⟨oc7, od7, .func (PySem.W.fnOf "boxes" "Stacks.boxes" (defArgs s_Stacks_boxes) (defBody s_Stacks_boxes) (defScope s_Stacks_boxes) .none kV7 dc7 pm7 an7 cd7 ct7), sl7⟩) (c7 : PySem.W.codeIn K cd7 "Stacks.boxes" = true) (k7 : PySem.W.keepIn K (.ref f7) = true)
    (a8 : PySem.W.findIn K (.ref c_Stacks) "where" = some (some (.ref f8))) (i8 : PySem.W.isFn K (.ref f8) = true) (l8 : K.lookup f8 = some ⟨oc8, od8, .func (PySem.W.fnOf "where" "Stacks.where" (defArgs s_Stacks_where) (defBody s_Stacks_where) (defScope s_Stacks_where) .none kV8 dc8 pm8 an8 cd8 ct8), sl8⟩) (c8 : PySem.W.codeIn K cd8 "Stacks.where" = true) (k8 : PySem.W.keepIn K (.ref f8) = true)
    (a9 : PySem.W.findIn K (.ref c_Stacks) "is_top" = some (some (.ref f9))) (i9 : PySem.W.isFn K (.ref f9) = true) (l9 : K.lookup f9 = some ⟨oc9, od9, .func (PySem.W.fnOf "is_top" "Stacks.is_top" (defArgs s_Stacks_is_top) (defBody s_Stacks_is_top) (defScope s_Stacks_is_top) .none kV9 dc9 pm9 an9 cd9 ct9), sl9⟩) (c9 : PySem.W.codeIn K cd9 "Stacks.is_top" = true) (k9 : PySem.W.keepIn K (.ref f9) = true)
    (a10 : PySem.W.findIn K (.ref c_Stacks) "put" = some (some (.ref f10))) (i10 : PySem.W.isFn K (.ref f10) = true) (l10 : K.lookup f10 = some ⟨oc10, od10, .func (PySem.W.fnOf "put" "Stacks.put" (defArgs s_Stacks_put) (defBody s_Stacks_put) (defScope s_Stacks_put) .none kV10 dc10 pm10 an10 cd10 ct10), sl10⟩) (c10 : PySem.W.codeIn K cd10 "Stacks.put" = true) (k10 : PySem.W.keepIn K (.ref f10) = true)
    (a11 : PySem.W.findIn K (.ref c_Stacks) "take" = some (some (.ref f11))) (i11 : PySem.W.isFn K (.ref f11) = true) (l11 : K.lookup f11 = some ⟨oc11, od11, .func (PySem.W.fnOf "take" "Stacks.take" (defArgs s_Stacks_take) (defBody s_Stacks_take) (defScope s_Stacks_take) .none kV11 dc11 pm11 an11 cd11 ct11), sl11⟩) (c11 : PySem.W.codeIn K cd11 "Stacks.take" = true) (k11 : PySem.W.keepIn K (.ref f11) = true)
    (a12 : PySem.W.findIn K (.ref c_Stacks) "copied" = some (some (.ref f12))) (i12 : PySem.W.isFn K (.ref f12) = true) (l12 : K.lookup f12 = some ⟨oc12, od12, .func (PySem.W.fnOf "copied" "Stacks.copied" (defArgs s_Stacks_copied) (defBody s_Stacks_copied) (defScope s_Stacks_copied) .none kV12 dc12 pm12 an12 cd12 ct12), sl12⟩) (c12 : PySem.W.codeIn K cd12 "Stacks.copied" = true) (k12 : PySem.W.keepIn K (.ref f12) = true)
    (a13 : PySem.W.findIn K (.ref c_Stacks) "_lies" = some (some (.ref f13))) (i13 : PySem.W.isFn K (.ref f13) = true) (l13 : K.lookup f13 = some ⟨oc13, od13, .func (PySem.W.fnOf "_lies" "Stacks._lies" (defArgs s_Stacks__lies) (defBody s_Stacks__lies) (defScope s_Stacks__lies) .none kV13 dc13 pm13 an13 cd13 ct13), sl13⟩) (c13 : PySem.W.codeIn K cd13 "Stacks._lies" = true) (k13 : PySem.W.keepIn K (.ref f13) = true)
    (a14 : PySem.W.findIn K (.ref c_Stacks) "_ask_stack" = some (some (.ref f14))) (i14 : PySem.W.isFn K (.ref f14) = true) (l14 : K.lookup f14 = some ⟨oc14, od14, .func (PySem.W.fnOf "_ask_stack" "Stacks._ask_stack" (defArgs s_Stacks__ask_stack) (defBody s_Stacks__ask_stack) (defScope s_Stacks__ask_stack) .none kV14 dc14 pm14 an14 cd14 ct14), sl14⟩) (c14 : PySem.W.codeIn K cd14 "Stacks._ask_stack" = true) (k14 : PySem.W.keepIn K (.ref f14) = true)
    (a15 : PySem.W.findIn K (.ref c_Stacks) "_ask_space" = some (some (.ref f15))) (i15 : PySem.W.isFn K (.ref f15) = true) (l15 : K.lookup f15 = some ⟨oc15, od15, .func (PySem.W.fnOf "_ask_space" "Stacks._ask_space" (defArgs s_Stacks__ask_space) (defBody s_Stacks__ask_space) (defScope s_Stacks__ask_space) .none kV15 dc15 pm15 an15 cd15 ct15), sl15⟩) (c15 : PySem.W.codeIn K cd15 "Stacks._ask_space" = true) (k15 : PySem.W.keepIn K (.ref f15) = true)
    (a16 : PySem.W.nsIn K mainGlobals "_are_stacks" = some (some (.ref f16))) (l16 : K.lookup f16 = some ⟨oc16, od16, .func (PySem.W.fnOf "_are_stacks" "_are_stacks" (defArgs s_are_stacks) (defBody s_are_stacks) (defScope s_are_stacks) .none kV16 dc16 pm16 an16 cd16 ct16), sl16⟩) (c16 : PySem.W.codeIn K cd16 "_are_stacks" = true) (k16 : PySem.W.keepIn K (.ref f16) = true)
    (a17 : PySem.W.nsIn K mainGlobals "_is_stack" = some (some (.ref f17))) (l17 : K.lookup f17 = some ⟨oc17, od17, .func (PySem.W.fnOf "_is_stack" "_is_stack" (defArgs s_is_stack) (defBody s_is_stack) (defScope s_is_stack) .none kV17 dc17 pm17 an17 cd17 ct17), sl17⟩) (c17 : PySem.W.codeIn K cd17 "_is_stack" = true) (k17 : PySem.W.keepIn K (.ref f17) = true)
    (a18 : PySem.W.nsIn K mainGlobals "_law_mixed" = some (some (.ref f18))) (l18 : K.lookup f18 = some ⟨oc18, od18, .func (PySem.W.fnOf "_law_mixed" "_law_mixed" (defArgs s_l_mixed) (defBody s_l_mixed) (defScope s_l_mixed) .none kV18 dc18 pm18 an18 cd18 ct18), sl18⟩) (c18 : PySem.W.codeIn K cd18 "_law_mixed" = true) (k18 : PySem.W.keepIn K (.ref f18) = true)
    (a19 : PySem.W.nsIn K mainGlobals "_law_number" = some (some (.ref f19))) (l19 : K.lookup f19 = some ⟨oc19, od19, .func (PySem.W.fnOf "_law_number" "_law_number" (defArgs s_l_number) (defBody s_l_number) (defScope s_l_number) .none kV19 dc19 pm19 an19 cd19 ct19), sl19⟩) (c19 : PySem.W.codeIn K cd19 "_law_number" = true) (k19 : PySem.W.keepIn K (.ref f19) = true)
    (a20 : PySem.W.nsIn K mainGlobals "_law_names" = some (some (.ref f20))) (l20 : K.lookup f20 = some ⟨oc20, od20, .func (PySem.W.fnOf "_law_names" "_law_names" (defArgs s_l_names) (defBody s_l_names) (defScope s_l_names) .none kV20 dc20 pm20 an20 cd20 ct20), sl20⟩) (c20 : PySem.W.codeIn K cd20 "_law_names" = true) (k20 : PySem.W.keepIn K (.ref f20) = true)
    (a21 : PySem.W.nsIn K mainGlobals "_law_stacks" = some (some (.ref f21))) (l21 : K.lookup f21 = some ⟨oc21, od21, .func (PySem.W.fnOf "_law_stacks" "_law_stacks" (defArgs s_l_stacks) (defBody s_l_stacks) (defScope s_l_stacks) .none kV21 dc21 pm21 an21 cd21 ct21), sl21⟩) (c21 : PySem.W.codeIn K cd21 "_law_stacks" = true) (k21 : PySem.W.keepIn K (.ref f21) = true)
    (a22 : PySem.W.nsIn K mainGlobals "_law_weight" = some (some (.ref f22))) (l22 : K.lookup f22 = some ⟨oc22, od22, .func (PySem.W.fnOf "_law_weight" "_law_weight" (defArgs s_l_weight) (defBody s_l_weight) (defScope s_l_weight) .none kV22 dc22 pm22 an22 cd22 ct22), sl22⟩) (c22 : PySem.W.codeIn K cd22 "_law_weight" = true) (k22 : PySem.W.keepIn K (.ref f22) = true)
    (a23 : PySem.W.nsIn K mainGlobals "_law_new" = some (some (.ref f23))) (l23 : K.lookup f23 = some ⟨oc23, od23, .func (PySem.W.fnOf "_law_new" "_law_new" (defArgs s_l_new) (defBody s_l_new) (defScope s_l_new) .none kV23 dc23 pm23 an23 cd23 ct23), sl23⟩) (c23 : PySem.W.codeIn K cd23 "_law_new" = true) (k23 : PySem.W.keepIn K (.ref f23) = true)
    (a24 : PySem.W.nsIn K mainGlobals "_law_kept" = some (some (.ref f24))) (l24 : K.lookup f24 = some ⟨oc24, od24, .func (PySem.W.fnOf "_law_kept" "_law_kept" (defArgs s_l_kept) (defBody s_l_kept) (defScope s_l_kept) .none kV24 dc24 pm24 an24 cd24 ct24), sl24⟩) (c24 : PySem.W.codeIn K cd24 "_law_kept" = true) (k24 : PySem.W.keepIn K (.ref f24) = true)
    (a25 : PySem.W.nsIn K mainGlobals "_law_of" = some (some (.ref f25))) (l25 : K.lookup f25 = some ⟨oc25, od25, .func (PySem.W.fnOf "_law_of" "_law_of" (defArgs s_l_of) (defBody s_l_of) (defScope s_l_of) .none kV25 dc25 pm25 an25 cd25 ct25), sl25⟩) (c25 : PySem.W.codeIn K cd25 "_law_of" = true) (k25 : PySem.W.keepIn K (.ref f25) = true)
    (a26 : PySem.W.nsIn K mainGlobals "_law_where" = some (some (.ref f26))) (l26 : K.lookup f26 = some ⟨oc26, od26, .func (PySem.W.fnOf "_law_where" "_law_where" (defArgs s_l_where) (defBody s_l_where) (defScope s_l_where) .none kV26 dc26 pm26 an26 cd26 ct26), sl26⟩) (c26 : PySem.W.codeIn K cd26 "_law_where" = true) (k26 : PySem.W.keepIn K (.ref f26) = true)
    (a27 : PySem.W.nsIn K mainGlobals "_law_may" = some (some (.ref f27))) (l27 : K.lookup f27 = some ⟨oc27, od27, .func (PySem.W.fnOf "_law_may" "_law_may" (defArgs s_l_may) (defBody s_l_may) (defScope s_l_may) .none kV27 dc27 pm27 an27 cd27 ct27), sl27⟩) (c27 : PySem.W.codeIn K cd27 "_law_may" = true) (k27 : PySem.W.keepIn K (.ref f27) = true)
    (a28 : PySem.W.nsIn K mainGlobals "_law_deed" = some (some (.ref f28))) (l28 : K.lookup f28 = some ⟨oc28, od28, .func (PySem.W.fnOf "_law_deed" "_law_deed" (defArgs s_l_deed) (defBody s_l_deed) (defScope s_l_deed) .none kV28 dc28 pm28 an28 cd28 ct28), sl28⟩) (c28 : PySem.W.codeIn K cd28 "_law_deed" = true) (k28 : PySem.W.keepIn K (.ref f28) = true)
    (a29 : PySem.W.nsIn K mainGlobals "_law_right" = some (some (.ref f29))) (l29 : K.lookup f29 = some ⟨oc29, od29, .func (PySem.W.fnOf "_law_right" "_law_right" (defArgs s_l_right) (defBody s_l_right) (defScope s_l_right) .none kV29 dc29 pm29 an29 cd29 ct29), sl29⟩) (c29 : PySem.W.codeIn K cd29 "_law_right" = true) (k29 : PySem.W.keepIn K (.ref f29) = true)
    (a30 : PySem.W.nsIn K mainGlobals "law" = some (some (.ref f30))) (l30 : K.lookup f30 = some ⟨oc30, od30, .func (PySem.W.fnOf "law" "law" (defArgs s_law) (defBody s_law) (defScope s_law) .none kV30 dc30 pm30 an30 cd30 ct30), sl30⟩) (c30 : PySem.W.codeIn K cd30 "law" = true) (k30 : PySem.W.keepIn K (.ref f30) = true)
    (n_all : PySem.W.nsIn K mainGlobals "all" = some none)
    (n_bool : PySem.W.nsIn K mainGlobals "bool" = some none)
    (n_dict : PySem.W.nsIn K mainGlobals "dict" = some none)
    (n_enumerate : PySem.W.nsIn K mainGlobals "enumerate" = some none)
    (n_int : PySem.W.nsIn K mainGlobals "int" = some none)
    (n_isinstance : PySem.W.nsIn K mainGlobals "isinstance" = some none)
    (n_len : PySem.W.nsIn K mainGlobals "len" = some none)
    (n_list : PySem.W.nsIn K mainGlobals "list" = some none)
    (n_min : PySem.W.nsIn K mainGlobals "min" = some none)
    (n_range : PySem.W.nsIn K mainGlobals "range" = some none)
    (n_repr : PySem.W.nsIn K mainGlobals "repr" = some none)
    (n_sorted : PySem.W.nsIn K mainGlobals "sorted" = some none)
    (n_str : PySem.W.nsIn K mainGlobals "str" = some none)
    (n_sum : PySem.W.nsIn K mainGlobals "sum" = some none)
    (n_tuple : PySem.W.nsIn K mainGlobals "tuple" = some none)
    {tk_GREATEST_NUMBER : Tok} (g_GREATEST_NUMBER : PySem.W.nsIn K mainGlobals "GREATEST_NUMBER" = some (some (.int 1000000000000 tk_GREATEST_NUMBER)))
    {tk_LONGEST_NAME : Tok} (g_LONGEST_NAME : PySem.W.nsIn K mainGlobals "LONGEST_NAME" = some (some (.int 8 tk_LONGEST_NAME)))
    {tk_MOST_BOXES : Tok} (g_MOST_BOXES : PySem.W.nsIn K mainGlobals "MOST_BOXES" = some (some (.int 20 tk_MOST_BOXES)))
    {tk_MOST_STACKS : Tok} (g_MOST_STACKS : PySem.W.nsIn K mainGlobals "MOST_STACKS" = some (some (.int 20 tk_MOST_STACKS)))
    : ∃ fd : FuncData, (∀ (s : Shared) (v : Value), BindsTo s fd ⟨[v], []⟩ [("_law_script", v)]) ∧ ∀ base : Heap, K.In base → base.Ns mainGlobals mg → (∃ o, base.get? sysModules = some o) → FnG l.prog w K mg base CX0 7 fa fd ["_law_script"] (sp_law K) := by
  have e := hfa.symm.trans (PySem.W.mg_of X G a30)
  cases e
  let T : Tx K mg := ⟨⟨c_Stacks, c_CraneError, c_BadName, c_BadNumber, c_BadStack, c_Twice, c_NoStack, c_NoBox, c_TooHigh, c_TooHeavy, c_Empty⟩, _, _, fun_mk (st := s_is_name) l0 c0 k0, PySem.W.mg_of X G a0, _, _, fun_mk (st := s_is_among) l1 c1 k1, PySem.W.mg_of X G a1, _, _, fun_mk (st := s_Stacks_init) l2 c2 k2, ⟨mk_Stacks, a2, i2, kc_Stacks⟩, _, _, fun_mk (st := s_Stacks_names) l3 c3 k3, ⟨a3, i3, k3⟩, _, _, fun_mk (st := s_Stacks_place_of) l4 c4 k4, ⟨a4, i4, k4⟩, _, _, fun_mk (st := s_Stacks_high) l5 c5 k5, ⟨a5, i5, k5⟩, _, _, fun_mk (st := s_Stacks_weight) l6 c6 k6, ⟨a6, i6, k6⟩, _, _, fun_mk (st := s_Stacks_boxes) l7 c7 k7, ⟨a7, i7, k7⟩, _, _, fun_mk (st := s_Stacks_where) l8 c8 k8, ⟨a8, i8, k8⟩, _, _, fun_mk (st := s_Stacks_is_top) l9 c9 k9, ⟨a9, i9, k9⟩, _, _, fun_mk (st := s_Stacks_put) l10 c10 k10, ⟨a10, i10, k10⟩, _, _, fun_mk (st := s_Stacks_take) l11 c11 k11, ⟨a11, i11, k11⟩, _, _, fun_mk (st := s_Stacks_copied) l12 c12 k12, ⟨a12, i12, k12⟩, _, _, fun_mk (st := s_Stacks__lies) l13 c13 k13, ⟨a13, i13, k13⟩, _, _, fun_mk (st := s_Stacks__ask_stack) l14 c14 k14, ⟨a14, i14, k14⟩, _, _, fun_mk (st := s_Stacks__ask_space) l15 c15 k15, ⟨a15, i15, k15⟩, _, _, fun_mk (st := s_are_stacks) l16 c16 k16, PySem.W.mg_of X G a16, _, _, fun_mk (st := s_is_stack) l17 c17 k17, PySem.W.mg_of X G a17, _, _, fun_mk (st := s_l_mixed) l18 c18 k18, PySem.W.mg_of X G a18, _, _, fun_mk (st := s_l_number) l19 c19 k19, PySem.W.mg_of X G a19, _, _, fun_mk (st := s_l_names) l20 c20 k20, PySem.W.mg_of X G a20, _, _, fun_mk (st := s_l_stacks) l21 c21 k21, PySem.W.mg_of X G a21, _, _, fun_mk (st := s_l_weight) l22 c22 k22, PySem.W.mg_of X G a22, _, _, fun_mk (st := s_l_new) l23 c23 k23, PySem.W.mg_of X G a23, _, _, fun_mk (st := s_l_kept) l24 c24 k24, PySem.W.mg_of X G a24, _, _, fun_mk (st := s_l_of) l25 c25 k25, PySem.W.mg_of X G a25, _, _, fun_mk (st := s_l_where) l26 c26 k26, PySem.W.mg_of X G a26, _, _, fun_mk (st := s_l_may) l27 c27 k27, PySem.W.mg_of X G a27, _, _, fun_mk (st := s_l_deed) l28 c28 k28, PySem.W.mg_of X G a28, _, _, fun_mk (st := s_l_right) l29 c29 k29, PySem.W.mg_of X G a29, _, _, fun_mk (st := s_law) l30 c30 k30, PySem.W.mg_of X G a30, PySem.W.mg_of X G ac_Stacks, PySem.W.mg_of X G ac_CraneError, PySem.W.mg_of X G ac_BadName, PySem.W.mg_of X G ac_BadNumber, PySem.W.mg_of X G ac_BadStack, PySem.W.mg_of X G ac_Twice, PySem.W.mg_of X G ac_NoStack, PySem.W.mg_of X G ac_NoBox, PySem.W.mg_of X G ac_TooHigh, PySem.W.mg_of X G ac_TooHeavy, PySem.W.mg_of X G ac_Empty, x_BadStack, xk_BadStack, xb_BadStack, xt_BadStack, x_BadName, xk_BadName, xb_BadName, xt_BadName, x_BadNumber, xk_BadNumber, xb_BadNumber, xt_BadNumber, x_NoStack, xk_NoStack, xb_NoStack, xt_NoStack, x_Twice, xk_Twice, xb_Twice, xt_Twice, x_TooHigh, xk_TooHigh, xb_TooHigh, xt_TooHigh, x_TooHeavy, xk_TooHeavy, xb_TooHeavy, xt_TooHeavy, x_Empty, xk_Empty, xb_Empty, xt_Empty, x_NoBox, xk_NoBox, xb_NoBox, xt_NoBox, ⟨⟨pg_Stacks, hd_Stacks, po_Stacks, sa_Stacks⟩, nf_Stacks__told, nf_Stacks__piles, nf_Stacks__lying⟩, PySem.W.mg_none_of X G n_all, PySem.W.mg_none_of X G n_bool, PySem.W.mg_none_of X G n_dict, PySem.W.mg_none_of X G n_enumerate, PySem.W.mg_none_of X G n_int, PySem.W.mg_none_of X G n_isinstance, PySem.W.mg_none_of X G n_len, PySem.W.mg_none_of X G n_list, PySem.W.mg_none_of X G n_min, PySem.W.mg_none_of X G n_range, PySem.W.mg_none_of X G n_repr, PySem.W.mg_none_of X G n_sorted, PySem.W.mg_none_of X G n_str, PySem.W.mg_none_of X G n_sum, PySem.W.mg_none_of X G n_tuple, _, PySem.W.mg_of X G g_GREATEST_NUMBER, _, PySem.W.mg_of X G g_LONGEST_NAME, _, PySem.W.mg_of X G g_MOST_BOXES, _, PySem.W.mg_of X G g_MOST_STACKS⟩
  exact ⟨_, fun s v => .of_eq rfl, fun base _ _ hsm => ok_law T hsm⟩
theorem walk {l : PySem.W.OpenLaw} {q : Program} {loose : List Str} {XP : (Str → Option Value) → Heap → Prop} {YP : World → Heap → Prop} {d : DefRec} {K : Params → PySem.W.Frag} (hn : l.most = some 63) (hdf : d.params.defaults = []) (hq : PyProof.Rows.importsNone q = true)
    (hY : ∀ (w : World) (h : Heap), YP w h → (K w.params).In h)
    (F : ∀ (w : World) (mg : Str → Option Value) (fa : Addr) (h : Heap), (K w.params).In h → h.Ns mainGlobals mg → mg d.name = some (.ref fa) →
      ∃ fd : FuncData, (∀ (s : Shared) (u : Value), BindsTo s fd ⟨[u], []⟩ [("_law_script", u)]) ∧ ∀ base : Heap, (K w.params).In base → base.Ns mainGlobals mg → (∃ o, base.get? sysModules = some o) → FnG l.prog w (K w.params) mg base CX0 7 fa fd ["_law_script"] (sp_law (K w.params))) :
    PySem.W.WalkO q loose XP YP l.row.toRowW d [] (fun f vs => PySem.call f vs) :=
  walkG (n := 63) (k := 7) (x := "_law_script") (CX := fun _ => CX0) (sp := fun w => sp_law (K w.params)) hn (by decide) hdf ⟨rfl, by decide, by decide⟩ hq hY F (fun _ H a ns hl hS => law_end hl hS) fun _ _ _ _ _ z => z

end L07
open PySem PySem.W PyProof.Rows
set_option maxRecDepth 100000 in
set_option maxHeartbeats 0 in
theorem PySem.Challenge.cw_craneyard_k07_stacks_by_deeds_holds : PySem.Challenge.rw_craneyard_k07_stacks_by_deeds.Holds := by
  w_on; o_law; k_head; (case hw => w_witness2)
  k_fill
  refine L07.walk (l := PySem.Challenge.rw_craneyard_k07_stacks_by_deeds) rfl rfl (by decide +kernel) (fun w h Y => PySem.W.kIn_of Y) ?F
  case F =>
    intro w mg fa h KX G hmg
    refine' L07.all_mk KX G hmg ?ac_Stacks ?pg_Stacks ?hd_Stacks ?po_Stacks ?sa_Stacks ?mk_Stacks ?kc_Stacks ?nf_Stacks__told ?nf_Stacks__piles ?nf_Stacks__lying ?ac_CraneError ?ac_BadName ?ac_BadNumber ?ac_BadStack ?ac_Twice ?ac_NoStack ?ac_NoBox ?ac_TooHigh ?ac_TooHeavy ?ac_Empty ?x_BadStack ?xk_BadStack ?xb_BadStack ?xt_BadStack ?x_BadName ?xk_BadName ?xb_BadName ?xt_BadName ?x_BadNumber ?xk_BadNumber ?xb_BadNumber ?xt_BadNumber ?x_NoStack ?xk_NoStack ?xb_NoStack ?xt_NoStack ?x_Twice ?xk_Twice ?xb_Twice ?xt_Twice ?x_TooHigh ?xk_TooHigh ?xb_TooHigh ?xt_TooHigh ?x_TooHeavy ?xk_TooHeavy ?xb_TooHeavy ?xt_TooHeavy ?x_Empty ?xk_Empty ?xb_Empty ?xt_Empty ?x_NoBox ?xk_NoBox ?xb_NoBox ?xt_NoBox ?a0 ?l0 ?c0 ?k0 ?a1 ?l1 ?c1 ?k1 ?a2 ?i2 ?l2 ?c2 ?k2 ?a3 ?i3 ?l3 ?c3 ?k3 ?a4 ?i4 ?l4 ?c4 ?k4 ?a5 ?i5 ?l5 ?c5 ?k5 ?a6 ?i6 ?l6 ?c6 ?k6 ?a7 ?i7 ?l7 ?c7 ?k7 ?a8 ?i8 ?l8 ?c8 ?k8 ?a9 ?i9 ?l9 ?c9 ?k9 ?a10 ?i10 ?l10 ?c10 ?k10 ?a11 ?i11 ?l11 ?c11 ?k11 ?a12 ?i12 ?l12 ?c12 ?k12 ?a13 ?i13 ?l13 ?c13 ?k13 ?a14 ?i14 ?l14 ?c14 ?k14 ?a15 ?i15 ?l15 ?c15 ?k15 ?a16 ?l16 ?c16 ?k16 ?a17 ?l17 ?c17 ?k17 ?a18 ?l18 ?c18 ?k18 ?a19 ?l19 ?c19 ?k19 ?a20 ?l20 ?c20 ?k20 ?a21 ?l21 ?c21 ?k21 ?a22 ?l22 ?c22 ?k22 ?a23 ?l23 ?c23 ?k23 ?a24 ?l24 ?c24 ?k24 ?a25 ?l25 ?c25 ?k25 ?a26 ?l26 ?c26 ?k26 ?a27 ?l27 ?c27 ?k27 ?a28 ?l28 ?c28 ?k28 ?a29 ?l29 ?c29 ?k29 ?a30 ?l30 ?c30 ?k30 ?n_all ?n_bool ?n_dict ?n_enumerate ?n_int ?n_isinstance ?n_len ?n_list ?n_min ?n_range ?n_repr ?n_sorted ?n_str ?n_sum ?n_tuple ?g_GREATEST_NUMBER ?g_LONGEST_NAME ?g_MOST_BOXES ?g_MOST_STACKS
    (case ac_Stacks => first | k_is | k_exc)
    (case pg_Stacks => first | k_is | k_exc)
    (case hd_Stacks => first | k_is | k_exc)
    (case po_Stacks => first | k_is | k_exc)
    (case sa_Stacks => first | k_is | k_exc)
    (case mk_Stacks => first | k_is | k_exc)
    (case kc_Stacks => first | k_is | k_exc)
    (case nf_Stacks__told => first | k_is | k_exc)
    (case nf_Stacks__piles => first | k_is | k_exc)
    (case nf_Stacks__lying => first | k_is | k_exc)
    (case ac_CraneError => first | k_is | k_exc)
    (case ac_BadName => first | k_is | k_exc)
    (case ac_BadNumber => first | k_is | k_exc)
    (case ac_BadStack => first | k_is | k_exc)
    (case ac_Twice => first | k_is | k_exc)
    (case ac_NoStack => first | k_is | k_exc)
    (case ac_NoBox => first | k_is | k_exc)
    (case ac_TooHigh => first | k_is | k_exc)
    (case ac_TooHeavy => first | k_is | k_exc)
    (case ac_Empty => first | k_is | k_exc)
    (case x_BadStack => first | k_is | k_exc)
    (case xk_BadStack => first | k_is | k_exc)
    (case xb_BadStack => first | k_is | k_exc)
    (case xt_BadStack => first | k_is | k_exc)
    (case x_BadName => first | k_is | k_exc)
    (case xk_BadName => first | k_is | k_exc)
    (case xb_BadName => first | k_is | k_exc)
    (case xt_BadName => first | k_is | k_exc)
    (case x_BadNumber => first | k_is | k_exc)
    (case xk_BadNumber => first | k_is | k_exc)
    (case xb_BadNumber => first | k_is | k_exc)
    (case xt_BadNumber => first | k_is | k_exc)
    (case x_NoStack => first | k_is | k_exc)
    (case xk_NoStack => first | k_is | k_exc)
    (case xb_NoStack => first | k_is | k_exc)
    (case xt_NoStack => first | k_is | k_exc)
    (case x_Twice => first | k_is | k_exc)
    (case xk_Twice => first | k_is | k_exc)
    (case xb_Twice => first | k_is | k_exc)
    (case xt_Twice => first | k_is | k_exc)
    (case x_TooHigh => first | k_is | k_exc)
    (case xk_TooHigh => first | k_is | k_exc)
    (case xb_TooHigh => first | k_is | k_exc)
    (case xt_TooHigh => first | k_is | k_exc)
    (case x_TooHeavy => first | k_is | k_exc)
    (case xk_TooHeavy => first | k_is | k_exc)
    (case xb_TooHeavy => first | k_is | k_exc)
    (case xt_TooHeavy => first | k_is | k_exc)
    (case x_Empty => first | k_is | k_exc)
    (case xk_Empty => first | k_is | k_exc)
    (case xb_Empty => first | k_is | k_exc)
    (case xt_Empty => first | k_is | k_exc)
    (case x_NoBox => first | k_is | k_exc)
    (case xk_NoBox => first | k_is | k_exc)
    (case xb_NoBox => first | k_is | k_exc)
    (case xt_NoBox => first | k_is | k_exc)
    (case a0 => first | k_is | k_exc)
    (case l0 => first | k_is | k_exc)
    (case c0 => first | k_is | k_exc)
    (case k0 => first | k_is | k_exc)
    (case a1 => first | k_is | k_exc)
    (case l1 => first | k_is | k_exc)
    (case c1 => first | k_is | k_exc)
    (case k1 => first | k_is | k_exc)
    (case a2 => first | k_is | k_exc)
    (case i2 => first | k_is | k_exc)
    (case l2 => first | k_is | k_exc)
    (case c2 => first | k_is | k_exc)
    (case k2 => first | k_is | k_exc)
    (case a3 => first | k_is | k_exc)
    (case i3 => first | k_is | k_exc)
    (case l3 => first | k_is | k_exc)
    (case c3 => first | k_is | k_exc)
    (case k3 => first | k_is | k_exc)
    (case a4 => first | k_is | k_exc)
    (case i4 => first | k_is | k_exc)
    (case l4 => first | k_is | k_exc)
    (case c4 => first | k_is | k_exc)
    (case k4 => first | k_is | k_exc)
    (case a5 => first | k_is | k_exc)
    (case i5 => first | k_is | k_exc)
    (case l5 => first | k_is | k_exc)
    (case c5 => first | k_is | k_exc)
    (case k5 => first | k_is | k_exc)
    (case a6 => first | k_is | k_exc)
    (case i6 => first | k_is | k_exc)
    (case l6 => first | k_is | k_exc)
    (case c6 => first | k_is | k_exc)
    (case k6 => first | k_is | k_exc)
    (case a7 => first | k_is | k_exc)
    (case i7 => first | k_is | k_exc)
    (case l7 => first | k_is | k_exc)
    (case c7 => first | k_is | k_exc)
    (case k7 => first | k_is | k_exc)
    (case a8 => first | k_is | k_exc)
    (case i8 => first | k_is | k_exc)
    (case l8 => first | k_is | k_exc)
    (case c8 => first | k_is | k_exc)
    (case k8 => first | k_is | k_exc)
    (case a9 => first | k_is | k_exc)
    (case i9 => first | k_is | k_exc)
    (case l9 => first | k_is | k_exc)
    (case c9 => first | k_is | k_exc)
    (case k9 => first | k_is | k_exc)
    (case a10 => first | k_is | k_exc)
    (case i10 => first | k_is | k_exc)
    (case l10 => first | k_is | k_exc)
    (case c10 => first | k_is | k_exc)
    (case k10 => first | k_is | k_exc)
    (case a11 => first | k_is | k_exc)
    (case i11 => first | k_is | k_exc)
    (case l11 => first | k_is | k_exc)
    (case c11 => first | k_is | k_exc)
    (case k11 => first | k_is | k_exc)
    (case a12 => first | k_is | k_exc)
    (case i12 => first | k_is | k_exc)
    (case l12 => first | k_is | k_exc)
    (case c12 => first | k_is | k_exc)
    (case k12 => first | k_is | k_exc)
    (case a13 => first | k_is | k_exc)
    (case i13 => first | k_is | k_exc)
    (case l13 => first | k_is | k_exc)
    (case c13 => first | k_is | k_exc)
    (case k13 => first | k_is | k_exc)
    (case a14 => first | k_is | k_exc)
    (case i14 => first | k_is | k_exc)
    (case l14 => first | k_is | k_exc)
    (case c14 => first | k_is | k_exc)
    (case k14 => first | k_is | k_exc)
    (case a15 => first | k_is | k_exc)
    (case i15 => first | k_is | k_exc)
    (case l15 => first | k_is | k_exc)
    (case c15 => first | k_is | k_exc)
    (case k15 => first | k_is | k_exc)
    (case a16 => first | k_is | k_exc)
    (case l16 => first | k_is | k_exc)
    (case c16 => first | k_is | k_exc)
    (case k16 => first | k_is | k_exc)
    (case a17 => first | k_is | k_exc)
    (case l17 => first | k_is | k_exc)
    (case c17 => first | k_is | k_exc)
    (case k17 => first | k_is | k_exc)
    (case a18 => first | k_is | k_exc)
    (case l18 => first | k_is | k_exc)
    (case c18 => first | k_is | k_exc)
    (case k18 => first | k_is | k_exc)
    (case a19 => first | k_is | k_exc)
    (case l19 => first | k_is | k_exc)
    (case c19 => first | k_is | k_exc)
    (case k19 => first | k_is | k_exc)
    (case a20 => first | k_is | k_exc)
    (case l20 => first | k_is | k_exc)
    (case c20 => first | k_is | k_exc)
    (case k20 => first | k_is | k_exc)
    (case a21 => first | k_is | k_exc)
    (case l21 => first | k_is | k_exc)
    (case c21 => first | k_is | k_exc)
    (case k21 => first | k_is | k_exc)
    (case a22 => first | k_is | k_exc)
    (case l22 => first | k_is | k_exc)
    (case c22 => first | k_is | k_exc)
    (case k22 => first | k_is | k_exc)
    (case a23 => first | k_is | k_exc)
    (case l23 => first | k_is | k_exc)
    (case c23 => first | k_is | k_exc)
    (case k23 => first | k_is | k_exc)
    (case a24 => first | k_is | k_exc)
    (case l24 => first | k_is | k_exc)
    (case c24 => first | k_is | k_exc)
    (case k24 => first | k_is | k_exc)
    (case a25 => first | k_is | k_exc)
    (case l25 => first | k_is | k_exc)
    (case c25 => first | k_is | k_exc)
    (case k25 => first | k_is | k_exc)
    (case a26 => first | k_is | k_exc)
    (case l26 => first | k_is | k_exc)
    (case c26 => first | k_is | k_exc)
    (case k26 => first | k_is | k_exc)
    (case a27 => first | k_is | k_exc)
    (case l27 => first | k_is | k_exc)
    (case c27 => first | k_is | k_exc)
    (case k27 => first | k_is | k_exc)
    (case a28 => first | k_is | k_exc)
    (case l28 => first | k_is | k_exc)
    (case c28 => first | k_is | k_exc)
    (case k28 => first | k_is | k_exc)
    (case a29 => first | k_is | k_exc)
    (case l29 => first | k_is | k_exc)
    (case c29 => first | k_is | k_exc)
    (case k29 => first | k_is | k_exc)
    (case a30 => first | k_is | k_exc)
    (case l30 => first | k_is | k_exc)
    (case c30 => first | k_is | k_exc)
    (case k30 => first | k_is | k_exc)
    (case n_all => first | k_is | k_exc)
    (case n_bool => first | k_is | k_exc)
    (case n_dict => first | k_is | k_exc)
    (case n_enumerate => first | k_is | k_exc)
    (case n_int => first | k_is | k_exc)
    (case n_isinstance => first | k_is | k_exc)
    (case n_len => first | k_is | k_exc)
    (case n_list => first | k_is | k_exc)
    (case n_min => first | k_is | k_exc)
    (case n_range => first | k_is | k_exc)
    (case n_repr => first | k_is | k_exc)
    (case n_sorted => first | k_is | k_exc)
    (case n_str => first | k_is | k_exc)
    (case n_sum => first | k_is | k_exc)
    (case n_tuple => first | k_is | k_exc)
    (case g_GREATEST_NUMBER => first | k_is | k_exc)
    (case g_LONGEST_NAME => first | k_is | k_exc)
    (case g_MOST_BOXES => first | k_is | k_exc)
    (case g_MOST_STACKS => first | k_is | k_exc)

