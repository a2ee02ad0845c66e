import PyProof.Rows.All
import Wide.All
import OpenK.AllK
import Wide.FinOn
import HandS.ForMost
import HandS.Evl
import HandS.Walk
import HandS.IsInst
import HandS.Wide
import HandS.Style
import HandS.RevRange
import HandS.Replace
import HandS.RaiseMore
import HandS.Exc
import HandS.ExcOwn
import HandS.ExcIs
import HandS.ExcValue
import HandS.Conv
import HandS.TryOnly
import HandS.WordsExc
import PyProof.ReprRoads
import HandS.Lambda
import HandS.SetBool
import HandS.SetKeys
import HandS.DictComp
import HandS.Star
import PyProof.Rows.StrMeet
import PyProof.StrBlock2
import PyProof.Rows.SetFrom
import KE.KDictList
import HandS.StrMore
import HandS.EndBits
import HandS.SetFor
import KE.GoesMore
import KE.GoesEnum
import PySem.Challenge.RW_craneyard_k05_moves
set_option Elab.async false
set_option linter.all false
set_option maxRecDepth 100000
set_option maxHeartbeats 2000000
namespace Cy
open PySem L2 Evl

/-! an exception that was caught and is kept: tracked, by its class -/
def ExK (cls : Value) (d : Option Addr) (a : Addr) : HO := .ext fun h => ∃ (oe : Obj) (vs : Array Value), h.get? a = some oe ∧ Zc cls d oe ∧ oe.data = .fields vs

/-! data as trees; how a value bears them -/
inductive D where
  | non
  | bl (b : Bool)
  | int (i : Int)
  | str (s : Str)
  | lst (xs : List D)
  | tup (xs : List D)
  | dic (es : List (Key × D))
  | obj (C : Addr) (fs : List (Str × D))
  | scr (xs : List Int)
  | exc (C : Addr)
  | ptr (a : Addr)

mutual
inductive Rp (K : PySem.W.Frag) (F : Hp) : V → D → Prop
  | non : Rp K F .non .non
  | bl (b : Bool) : Rp K F (.bl b) (.bl b)
  | int (i : Int) : Rp K F (.int i) (.int i)
  | str (x : Str) : Rp K F (.str x) (.str x)
  | lst {a : Addr} {xs : List V} {ds : List D} : F a = some (.lst xs) → RpA K F xs ds → Rp K F (.ref a) (.lst ds)
  | tup {a : Addr} {xs : List V} {ds : List D} : F a = some (.tup xs) → RpA K F xs ds → Rp K F (.ref a) (.tup ds)
  | dic {a : Addr} {kvs : List (Key × V)} {es : List (Key × D)} : F a = some (.dK kvs) → kvs.map (fun p => p.1) = es.map (fun p => p.1) → RpA K F (kvs.map fun p => p.2) (es.map fun p => p.2) → Rp K F (.ref a) (.dic es)
  | obj {a C dx : Addr} {gs : List (Str × V)} {fs : List (Str × D)} : F a = some (.ins C dx gs) → gs.map (fun p => p.1) = fs.map (fun p => p.1) → RpA K F (gs.map fun p => p.2) (fs.map fun p => p.2) → Rp K F (.ref a) (.obj C fs)
  | scr {a : Addr} {ns : List Int} : SqL K F a (ns.map V.int) → Rp K F (.ref a) (.scr ns)
  | exc {a C : Addr} : F a = some (ExK (.ref C) none a) → Rp K F (.ref a) (.exc C)
  | ptr (a : Addr) : Rp K F (.ref a) (.ptr a)
inductive RpA (K : PySem.W.Frag) (F : Hp) : List V → List D → Prop
  | nil : RpA K F [] []
  | cons {v : V} {vs : List V} {d : D} {ds : List D} : Rp K F v d → RpA K F vs ds → RpA K F (v :: vs) (d :: ds)
end

section
variable {K : PySem.W.Frag} {F F' H H' : Hp}
mutual
theorem Rp.mono (e : Ex F F') : ∀ {v : V} {d : D}, Rp K F v d → Rp K F' v d
  | _, _, .non => .non
  | _, _, .bl b => .bl b
  | _, _, .int i => .int i
  | _, _, .str x => .str x
  | _, _, .lst h r => .lst (e _ _ h) (RpA.mono e r)
  | _, _, .tup h r => .tup (e _ _ h) (RpA.mono e r)
  | _, _, .dic h r1 r2 => .dic (e _ _ h) r1 (RpA.mono e r2)
  | _, _, .obj h n r => .obj (e _ _ h) n (RpA.mono e r)
  | _, _, .scr h => .scr (ex_l e h)
  | _, _, .exc h => .exc (e _ _ h)
  | _, _, .ptr a => .ptr a
theorem RpA.mono (e : Ex F F') : ∀ {vs : List V} {ds : List D}, RpA K F vs ds → RpA K F' vs ds
  | _, _, .nil => .nil
  | _, _, .cons r t => .cons (Rp.mono e r) (RpA.mono e t)
end
theorem RpA.length : ∀ {vs : List V} {ds : List D}, RpA K F vs ds → vs.length = ds.length
  | _, _, .nil => rfl
  | _, _, .cons _ t => by rw [List.length_cons, List.length_cons, RpA.length t]
theorem RpA.get : ∀ {vs : List V} {ds : List D} {i : Nat} {d : D}, RpA K F vs ds → ds[i]? = some d → ∃ v, vs[i]? = some v ∧ Rp K F v d
  | _, _, i, d, .nil, h => by simp at h
  | _, _, 0, d, .cons r _, h => by
    simp at h
    subst h
    exact ⟨_, rfl, r⟩
  | _, _, i + 1, d, .cons _ t, h => by
    obtain ⟨v, h1, h2⟩ := RpA.get (i := i) (d := d) t (by simpa using h)
    exact ⟨v, by simpa using h1, h2⟩
theorem RpA.app : ∀ {vs : List V} {ds : List D} {ws : List V} {es : List D}, RpA K F vs ds → RpA K F ws es → RpA K F (vs ++ ws) (ds ++ es)
  | _, _, _, _, .nil, s => s
  | _, _, _, _, .cons r t, s => .cons r (RpA.app t s)
theorem RpA.take : ∀ {vs : List V} {ds : List D} (n : Nat), RpA K F vs ds → RpA K F (vs.take n) (ds.take n)
  | _, _, 0, _ => .nil
  | _, _, _ + 1, .nil => .nil
  | _, _, n + 1, .cons r t => .cons r (RpA.take n t)
theorem RpA.drop : ∀ {vs : List V} {ds : List D} (n : Nat), RpA K F vs ds → RpA K F (vs.drop n) (ds.drop n)
  | _, _, 0, r => r
  | _, _, _ + 1, .nil => .nil
  | _, _, n + 1, .cons _ t => RpA.drop n t
theorem RpA.set {v : V} {d : D} (r : Rp K F v d) : ∀ {vs : List V} {ds : List D} (i : Nat), RpA K F vs ds → RpA K F (vs.set i v) (ds.set i d)
  | _, _, _, .nil => .nil
  | _, _, 0, .cons _ t => .cons r t
  | _, _, i + 1, .cons q t => .cons q (RpA.set r i t)
theorem RpA.erase : ∀ {vs : List V} {ds : List D} (i : Nat), RpA K F vs ds → RpA K F (vs.eraseIdx i) (ds.eraseIdx i)
  | _, _, _, .nil => .nil
  | _, _, 0, .cons _ t => t
  | _, _, i + 1, .cons q t => .cons q (RpA.erase i t)
theorem RpA.rev {vs : List V} {ds : List D} (h : RpA K F vs ds) : RpA K F vs.reverse ds.reverse := by
  induction vs generalizing ds with
  | nil =>
    cases h
    exact .nil
  | cons v vs ih =>
    cases h with
    | cons r t =>
      rw [List.reverse_cons, List.reverse_cons]
      exact RpA.app (ih t) (.cons r .nil)
theorem RpA.ints : ∀ {ns : List Int} {vs : List V}, RpA K F vs (ns.map D.int) → vs = ns.map V.int
  | [], _, h => by
    cases h
    rfl
  | n :: ns, _, h => by
    cases h with
    | cons r t =>
      cases r
      rw [RpA.ints t]
      rfl
theorem RpA.ofInts : ∀ ns : List Int, RpA K F (ns.map V.int) (ns.map D.int)
  | [] => .nil
  | n :: ns => .cons (.int n) (RpA.ofInts ns)
theorem RpA.bls : ∀ {ns : List Bool} {vs : List V}, RpA K F vs (ns.map D.bl) → vs = ns.map V.bl
  | [], _, h => by
    cases h
    rfl
  | n :: ns, _, h => by
    cases h with
    | cons r t =>
      cases r
      rw [RpA.bls t]
      rfl
theorem RpA.strs : ∀ {ns : List Str} {vs : List V}, RpA K F vs (ns.map D.str) → vs = ns.map V.str
  | [], _, h => by
    cases h
    rfl
  | n :: ns, _, h => by
    cases h with
    | cons r t =>
      cases r
      rw [RpA.strs t]
      rfl
end

/-! what stands in the slots -/
inductive Ow where
  | lst (l : List D)
  | ins (a C : Addr) (fs : List (Str × D))
inductive Sl where
  | no
  | dat (d : D)
  | own (w : Ow)
inductive BearO (K : PySem.W.Frag) (F : Hp) : Addr → HO → Ow → Prop
  | lst {p : Addr} {xs : List V} {l : List D} : RpA K F xs l → BearO K F p (.lst xs) (.lst l)
  | ins {a C dx : Addr} {gs : List (Str × V)} {fs : List (Str × D)} : gs.map (fun p => p.1) = fs.map (fun p => p.1) → RpA K F (gs.map fun p => p.2) (fs.map fun p => p.2) → BearO K F a (.ins C dx gs) (.ins a C fs)
theorem BearO.mono {K : PySem.W.Frag} {F F' : Hp} (e : Ex F F') {p : Addr} {o : HO} {w : Ow} (h : BearO K F p o w) : BearO K F' p o w := by
  cases h with
  | lst r => exact .lst (r.mono e)
  | ins n r => exact .ins n (r.mono e)
def datOf : Ow → D
  | .lst l => .lst l
  | .ins _ C fs => .obj C fs
theorem BearO.rp {K : PySem.W.Frag} {F : Hp} {p : Addr} {o : HO} {w : Ow} (h : BearO K F p o w) (hp : F p = some o) : Rp K F (.ref p) (datOf w) := by
  cases h with
  | lst r => exact .lst hp r
  | ins n r => exact .obj hp n r

structure En (K : PySem.W.Frag) (H0 F0 F H : Hp) (σ : L2.St) (G : List Sl) : Prop where
  dat : ∀ (i : Nat) (d : D), G[i]? = some (.dat d) → ∃ v, σ[i]? = some (some v) ∧ Rp K F v d
  own : ∀ (i : Nat) (w : Ow), G[i]? = some (.own w) → ∃ p o, σ[i]? = some (some (.ref p)) ∧ F p = none ∧ H0 p = none ∧ H p = some o ∧ BearO K F p o w
  dis : ∀ (i j : Nat) (li lj : Ow) (p : Addr), i ≠ j → G[i]? = some (.own li) → G[j]? = some (.own lj) → σ[i]? = some (some (.ref p)) → σ[j]? ≠ some (some (.ref p))
  e0 : Ex H0 H
  ef : Ex F H
  e1 : Ex F0 F
  nf : ∀ a o, F a = some o → F0 a = some o ∨ H0 a = none
  len : σ.length = G.length

/-- the new part of F' was free in H -/
def Nw (F F' H : Hp) : Prop := ∀ a o, F' a = some o → F a = some o ∨ H a = none
theorem Nw.refl (F H : Hp) : Nw F F H := fun _ _ h => .inl h

theorem ex_none {H H' : Hp} (e : Ex H H') {a : Addr} (h : H' a = none) : H a = none := fresh_back e h

section
variable {K : PySem.W.Frag} {H0 F0 F F' H H' : Hp} {σ : L2.St} {G : List Sl}
/-- a bigger footprint, a bigger heap -/
theorem En.grow (E : En K H0 F0 F H σ G) (e1 : Ex F F') (e2 : Ex H H') (e3 : Ex F' H') (n : Nw F F' H) : En K H0 F0 F' H' σ G where
  dat := fun i d h => by
    obtain ⟨v, a, b⟩ := E.dat i d h
    exact ⟨v, a, b.mono e1⟩
  own := fun i l h => by
    obtain ⟨p, xs, a, b, c, d, r⟩ := E.own i l h
    refine ⟨p, xs, a, ?_, c, e2 _ _ d, r.mono e1⟩
    cases q : F' p with
    | none => rfl
    | some o =>
      rcases n p o q with z | z
      · rw [b] at z
        cases z
      · rw [d] at z
        cases z
  dis := E.dis
  e0 := E.e0.trans e2
  ef := e3
  e1 := E.e1.trans e1
  nf := fun a o h => by
    rcases n a o h with z | z
    · exact E.nf a o z
    · exact .inr (ex_none E.e0 z)
  len := E.len
/-- a new object joins both -/
theorem nw_upd {p : Addr} {o : HO} (h : H p = none) (n : Nw F F' H) : Nw F (upd F' p o) H := fun a u q => by
  by_cases e : a = p
  · subst e
    exact .inr h
  · rw [upd_ne e] at q
    exact n a u q
theorem ex_upd_both {p : Addr} {o : HO} (e : Ex F H) : Ex (upd F p o) (upd H p o) := fun a u q => by
  by_cases z : a = p
  · subst z
    rw [upd_same] at q ⊢
    exact q
  · rw [upd_ne z] at q ⊢
    exact e a u q
theorem En.setD (E : En K H0 F0 F H σ G) {v : V} {d : D} (r : Rp K F v d) (i : Nat) : En K H0 F0 F H (σ.set i (some v)) (G.set i (.dat d)) where
  dat := fun j e h => by
    by_cases q : i = j
    · subst q
      by_cases hl : i < G.length
      · rw [List.getElem?_set_self hl] at h
        cases h
        exact ⟨v, List.getElem?_set_self (by rw [E.len]; exact hl), r⟩
      · rw [List.getElem?_eq_none (by rw [List.length_set]; omega)] at h
        cases h
    · rw [List.getElem?_set_ne q] at h ⊢
      exact E.dat j e h
  own := fun j l h => by
    by_cases q : i = j
    · subst q
      by_cases hl : i < G.length
      · rw [List.getElem?_set_self hl] at h
        cases h
      · rw [List.getElem?_eq_none (by rw [List.length_set]; omega)] at h
        cases h
    · rw [List.getElem?_set_ne q] at h ⊢
      exact E.own j l h
  dis := fun a b la lb p hab h1 h2 h3 => by
    have na : i ≠ a := fun q => by
      subst q
      by_cases hl : i < G.length
      · rw [List.getElem?_set_self hl] at h1
        cases h1
      · rw [List.getElem?_eq_none (by rw [List.length_set]; omega)] at h1
        cases h1
    have nb : i ≠ b := fun q => by
      subst q
      by_cases hl : i < G.length
      · rw [List.getElem?_set_self hl] at h2
        cases h2
      · rw [List.getElem?_eq_none (by rw [List.length_set]; omega)] at h2
        cases h2
    rw [List.getElem?_set_ne na] at h1 h3
    rw [List.getElem?_set_ne nb] at h2 ⊢
    exact E.dis a b la lb p hab h1 h2 h3
  e0 := E.e0
  ef := E.ef
  e1 := E.e1
  nf := E.nf
  len := by rw [List.length_set, List.length_set, E.len]
theorem En.setO (E : En K H0 F0 F H σ G) {p : Addr} {o : HO} {l : Ow} (hF : F p = none) (h0 : H0 p = none) (hH : H p = some o) (r : BearO K F p o l) (i : Nat)
    (hn : ∀ (j : Nat) (lj : Ow), G[j]? = some (.own lj) → i ≠ j → σ[j]? ≠ some (some (.ref p))) : En K H0 F0 F H (σ.set i (some (.ref p))) (G.set i (.own l)) where
  dat := fun j e h => by
    by_cases q : i = j
    · subst q
      by_cases hl : i < G.length
      · rw [List.getElem?_set_self hl] at h
        cases h
      · rw [List.getElem?_eq_none (by rw [List.length_set]; omega)] at h
        cases h
    · rw [List.getElem?_set_ne q] at h ⊢
      exact E.dat j e h
  own := fun j l' h => by
    by_cases q : i = j
    · subst q
      by_cases hl : i < G.length
      · rw [List.getElem?_set_self hl] at h
        cases h
        exact ⟨p, o, List.getElem?_set_self (by rw [E.len]; exact hl), hF, h0, hH, r⟩
      · rw [List.getElem?_eq_none (by rw [List.length_set]; omega)] at h
        cases h
    · rw [List.getElem?_set_ne q] at h ⊢
      exact E.own j l' h
  dis := fun a b la lb p' hab h1 h2 h3 => by
    by_cases qa : i = a
    · subst qa
      rw [List.getElem?_set_ne hab] at h2 ⊢
      have hl : i < σ.length := by
        have := (List.getElem?_eq_some_iff.mp h3).1
        rw [List.length_set] at this
        exact this
      rw [List.getElem?_set_self hl] at h3
      cases h3
      exact hn b lb h2 hab
    · rw [List.getElem?_set_ne qa] at h1 h3
      by_cases qb : i = b
      · subst qb
        intro z
        have hl : i < σ.length := by
          have := (List.getElem?_eq_some_iff.mp z).1
          rw [List.length_set] at this
          exact this
        rw [List.getElem?_set_self hl] at z
        cases z
        exact hn a la h1 qa h3
      · rw [List.getElem?_set_ne qb] at h2 ⊢
        exact E.dis a b la lb p' hab h1 h2 h3
  e0 := E.e0
  ef := E.ef
  e1 := E.e1
  nf := E.nf
  len := by rw [List.length_set, List.length_set, E.len]
/-- the owned list of slot i becomes xs' -/
theorem En.mut (E : En K H0 F0 F H σ G) {i : Nat} {l : Ow} (h : G[i]? = some (.own l)) {p : Addr} (hp : σ[i]? = some (some (.ref p))) {o' : HO} {l' : Ow} (r : BearO K F p o' l') :
    En K H0 F0 F (upd H p o') σ (G.set i (.own l')) := by
  obtain ⟨p', xs, a, b, c, d, _⟩ := E.own i l h
  have ep : p' = p := by
    rw [hp] at a
    cases a
    rfl
  subst ep
  have hl : i < G.length := (List.getElem?_eq_some_iff.mp h).1
  refine ⟨fun j e q => ?_, fun j m q => ?_, fun x y lx ly p'' hxy h1 h2 h3 => ?_, fun z o q => ?_, fun z o q => ?_, E.e1, E.nf, by rw [List.length_set, E.len]⟩
  · by_cases hij : i = j
    · subst hij
      rw [List.getElem?_set_self hl] at q
      cases q
    · rw [List.getElem?_set_ne hij] at q
      exact E.dat j e q
  · by_cases hij : i = j
    · subst hij
      rw [List.getElem?_set_self hl] at q
      cases q
      exact ⟨p', o', hp, b, c, upd_same, r⟩
    · rw [List.getElem?_set_ne hij] at q
      obtain ⟨p2, xs2, a2, b2, c2, d2, r2⟩ := E.own j m q
      have hne : p2 ≠ p' := fun z => by
        subst z
        exact E.dis i j l m p2 hij h q hp a2
      exact ⟨p2, xs2, a2, b2, c2, by rw [upd_ne hne]; exact d2, r2⟩
  · have w : ∀ (x : Nat) (lx : Ow), (G.set i (.own l'))[x]? = some (.own lx) → ∃ m, G[x]? = some (.own m) := fun x lx q => by
      by_cases hix : i = x
      · subst hix
        exact ⟨l, h⟩
      · rw [List.getElem?_set_ne hix] at q
        exact ⟨lx, q⟩
    obtain ⟨m1, q1⟩ := w x lx h1
    obtain ⟨m2, q2⟩ := w y ly h2
    exact E.dis x y m1 m2 p'' hxy q1 q2 h3
  · have hne : z ≠ p' := fun y => by
      subst y
      rw [c] at q
      cases q
    rw [upd_ne hne]
    exact E.e0 z o q
  · have hne : z ≠ p' := fun y => by
      subst y
      rw [b] at q
      cases q
    rw [upd_ne hne]
    exact E.ef z o q
/-- an owned list is shared from here on -/
theorem En.freeze (E : En K H0 F0 F H σ G) {i : Nat} {l : Ow} (h : G[i]? = some (.own l)) : ∃ F', Ex F F' ∧ En K H0 F0 F' H σ (G.set i (.dat (datOf l))) := by
  obtain ⟨p, xs, a, b, c, d, r⟩ := E.own i l h
  have hl : i < G.length := (List.getElem?_eq_some_iff.mp h).1
  have ef : Ex F (upd F p xs) := Ex.new b
  refine ⟨upd F p xs, ef, fun j e q => ?_, fun j m q => ?_, fun x y lx ly p'' hxy h1 h2 h3 => ?_, E.e0, fun z o q => ?_, E.e1.trans ef, fun z o q => ?_, by rw [List.length_set, E.len]⟩
  · by_cases hij : i = j
    · subst hij
      rw [List.getElem?_set_self hl] at q
      cases q
      exact ⟨_, a, (r.mono ef).rp upd_same⟩
    · rw [List.getElem?_set_ne hij] at q
      obtain ⟨v, q1, q2⟩ := E.dat j e q
      exact ⟨v, q1, q2.mono ef⟩
  · by_cases hij : i = j
    · subst hij
      rw [List.getElem?_set_self hl] at q
      cases q
    · rw [List.getElem?_set_ne hij] at q
      obtain ⟨p2, xs2, a2, b2, c2, d2, r2⟩ := E.own j m q
      have hne : p2 ≠ p := fun z => by
        subst z
        exact E.dis i j l m p2 hij h q a a2
      exact ⟨p2, xs2, a2, by rw [upd_ne hne]; exact b2, c2, d2, r2.mono ef⟩
  · have nx : i ≠ x := fun z => by
      subst z
      rw [List.getElem?_set_self hl] at h1
      cases h1
    have ny : i ≠ y := fun z => by
      subst z
      rw [List.getElem?_set_self hl] at h2
      cases h2
    rw [List.getElem?_set_ne nx] at h1
    rw [List.getElem?_set_ne ny] at h2
    exact E.dis x y lx ly p'' hxy h1 h2 h3
  · by_cases hz : z = p
    · subst hz
      rw [upd_same] at q
      cases q
      exact d
    · rw [upd_ne hz] at q
      exact E.ef z o q
  · by_cases hz : z = p
    · subst hz
      exact .inr c
    · rw [upd_ne hz] at q
      exact E.nf z o q
end
end Cy

set_option Elab.async false
set_option linter.all false
set_option maxRecDepth 100000
set_option maxHeartbeats 2000000
namespace Cy
open PySem L2 Evl

/-! expressions over the data in the slots -/
structure EvD (K : PySem.W.Frag) (te : TE) (G : List Sl) (d : D) : Prop where
  run : ∀ {H0 F0 F H : Hp} {σ : L2.St}, En K H0 F0 F H σ G → ∀ Q : VK, (∀ v F' H', En K H0 F0 F' H' σ G → Ex F F' → Ex H H' → Nw F F' H → Rp K F' v d → Q v H') → te σ H Q
instance {K : PySem.W.Frag} {te : TE} {G : List Sl} {d : D} : CoeFun (EvD K te G d) fun _ => ∀ {H0 F0 F H : Hp} {σ : L2.St}, En K H0 F0 F H σ G → ∀ Q : VK, (∀ v F' H', En K H0 F0 F' H' σ G → Ex F F' → Ex H H' → Nw F F' H → Rp K F' v d → Q v H') → te σ H Q := ⟨fun h => h.run⟩
/-- a new list of its own -/
structure EvO (K : PySem.W.Frag) (te : TE) (G : List Sl) (l : List D) : Prop where
  run : ∀ {H0 F0 F H : Hp} {σ : L2.St}, En K H0 F0 F H σ G → ∀ Q : VK, (∀ p xs F' H', En K H0 F0 F' H' σ G → Ex F F' → Ex H H' → Nw F F' H → H p = none → F' p = none → H' p = some (.lst xs) → RpA K F' xs l → Q (.ref p) H') → te σ H Q
instance {K : PySem.W.Frag} {te : TE} {G : List Sl} {l : List D} : CoeFun (EvO K te G l) fun _ => ∀ {H0 F0 F H : Hp} {σ : L2.St}, En K H0 F0 F H σ G → ∀ Q : VK, (∀ p xs F' H', En K H0 F0 F' H' σ G → Ex F F' → Ex H H' → Nw F F' H → H p = none → F' p = none → H' p = some (.lst xs) → RpA K F' xs l → Q (.ref p) H') → te σ H Q := ⟨fun h => h.run⟩
structure EvTt (K : PySem.W.Frag) (tt : TT) (G : List Sl) (b : Bool) : Prop where
  run : ∀ {H0 F0 F H : Hp} {σ : L2.St}, En K H0 F0 F H σ G → ∀ Q : Bool → Hp → Prop, (∀ F' H', En K H0 F0 F' H' σ G → Ex F F' → Ex H H' → Nw F F' H → Q b H') → tt σ H Q
instance {K : PySem.W.Frag} {tt : TT} {G : List Sl} {b : Bool} : CoeFun (EvTt K tt G b) fun _ => ∀ {H0 F0 F H : Hp} {σ : L2.St}, En K H0 F0 F H σ G → ∀ Q : Bool → Hp → Prop, (∀ F' H', En K H0 F0 F' H' σ G → Ex F F' → Ex H H' → Nw F F' H → Q b H') → tt σ H Q := ⟨fun h => h.run⟩
structure EvS (K : PySem.W.Frag) (ta : TA) (G : List Sl) (ds : List D) : Prop where
  run : ∀ {H0 F0 F H : Hp} {σ : L2.St}, En K H0 F0 F H σ G → ∀ Q : List V → Hp → Prop, (∀ vs F' H', En K H0 F0 F' H' σ G → Ex F F' → Ex H H' → Nw F F' H → RpA K F' vs ds → Q vs H') → ta σ H Q
instance {K : PySem.W.Frag} {ta : TA} {G : List Sl} {ds : List D} : CoeFun (EvS K ta G ds) fun _ => ∀ {H0 F0 F H : Hp} {σ : L2.St}, En K H0 F0 F H σ G → ∀ Q : List V → Hp → Prop, (∀ vs F' H', En K H0 F0 F' H' σ G → Ex F F' → Ex H H' → Nw F F' H → RpA K F' vs ds → Q vs H') → ta σ H Q := ⟨fun h => h.run⟩
structure EvP (K : PySem.W.Frag) (to : TO) (G : List Sl) (o : Option Int) : Prop where
  run : ∀ {H0 F0 F H : Hp} {σ : L2.St}, En K H0 F0 F H σ G → ∀ Q : Option Int → Hp → Prop, (∀ F' H', En K H0 F0 F' H' σ G → Ex F F' → Ex H H' → Nw F F' H → Q o H') → to σ H Q
instance {K : PySem.W.Frag} {to : TO} {G : List Sl} {o : Option Int} : CoeFun (EvP K to G o) fun _ => ∀ {H0 F0 F H : Hp} {σ : L2.St}, En K H0 F0 F H σ G → ∀ Q : Option Int → Hp → Prop, (∀ F' H', En K H0 F0 F' H' σ G → Ex F F' → Ex H H' → Nw F F' H → Q o H') → to σ H Q := ⟨fun h => h.run⟩
/-- operations on values -/
structure Op2 (K : PySem.W.Frag) (r : R2) (a b c : D) : Prop where
  run : ∀ {F H : Hp} {x y : V}, Ex F H → Rp K F x a → Rp K F y b → ∀ Q : VK, (∀ v F' H', Ex F F' → Ex F' H' → Ex H H' → Nw F F' H → Rp K F' v c → Q v H') → r x y H Q
instance {K : PySem.W.Frag} {r : R2} {a b c : D} : CoeFun (Op2 K r a b c) fun _ => ∀ {F H : Hp} {x y : V}, Ex F H → Rp K F x a → Rp K F y b → ∀ Q : VK, (∀ v F' H', Ex F F' → Ex F' H' → Ex H H' → Nw F F' H → Rp K F' v c → Q v H') → r x y H Q := ⟨fun h => h.run⟩
structure Op2O (K : PySem.W.Frag) (r : R2) (a b : D) (l : List D) : Prop where
  run : ∀ {F H : Hp} {x y : V}, Ex F H → Rp K F x a → Rp K F y b → ∀ Q : VK, (∀ p xs H', Ex H H' → H p = none → H' p = some (.lst xs) → RpA K F xs l → Q (.ref p) H') → r x y H Q
instance {K : PySem.W.Frag} {r : R2} {a b : D} {l : List D} : CoeFun (Op2O K r a b l) fun _ => ∀ {F H : Hp} {x y : V}, Ex F H → Rp K F x a → Rp K F y b → ∀ Q : VK, (∀ p xs H', Ex H H' → H p = none → H' p = some (.lst xs) → RpA K F xs l → Q (.ref p) H') → r x y H Q := ⟨fun h => h.run⟩
structure Op1 (K : PySem.W.Frag) (r : V → Hp → VK → Prop) (a c : D) : Prop where
  run : ∀ {F H : Hp} {x : V}, Ex F H → Rp K F x a → ∀ Q : VK, (∀ v F' H', Ex F F' → Ex F' H' → Ex H H' → Nw F F' H → Rp K F' v c → Q v H') → r x H Q
instance {K : PySem.W.Frag} {r : V → Hp → VK → Prop} {a c : D} : CoeFun (Op1 K r a c) fun _ => ∀ {F H : Hp} {x : V}, Ex F H → Rp K F x a → ∀ Q : VK, (∀ v F' H', Ex F F' → Ex F' H' → Ex H H' → Nw F F' H → Rp K F' v c → Q v H') → r x H Q := ⟨fun h => h.run⟩
structure OpN (K : PySem.W.Frag) (r : List V → Hp → VK → Prop) (ds : List D) (c : D) : Prop where
  run : ∀ {F H : Hp} {vs : List V}, Ex F H → RpA K F vs ds → ∀ Q : VK, (∀ v F' H', Ex F F' → Ex F' H' → Ex H H' → Nw F F' H → Rp K F' v c → Q v H') → r vs H Q
instance {K : PySem.W.Frag} {r : List V → Hp → VK → Prop} {ds : List D} {c : D} : CoeFun (OpN K r ds c) fun _ => ∀ {F H : Hp} {vs : List V}, Ex F H → RpA K F vs ds → ∀ Q : VK, (∀ v F' H', Ex F F' → Ex F' H' → Ex H H' → Nw F F' H → Rp K F' v c → Q v H') → r vs H Q := ⟨fun h => h.run⟩
structure OpNO (K : PySem.W.Frag) (r : List V → Hp → VK → Prop) (ds : List D) (l : List D) : Prop where
  run : ∀ {F H : Hp} {vs : List V}, Ex F H → RpA K F vs ds → ∀ Q : VK, (∀ p xs H', Ex H H' → H p = none → H' p = some (.lst xs) → RpA K F xs l → Q (.ref p) H') → r vs H Q
instance {K : PySem.W.Frag} {r : List V → Hp → VK → Prop} {ds : List D} {l : List D} : CoeFun (OpNO K r ds l) fun _ => ∀ {F H : Hp} {vs : List V}, Ex F H → RpA K F vs ds → ∀ Q : VK, (∀ p xs H', Ex H H' → H p = none → H' p = some (.lst xs) → RpA K F xs l → Q (.ref p) H') → r vs H Q := ⟨fun h => h.run⟩

section
variable {K : PySem.W.Frag} {G : List Sl} {ta tb te tx : TE} {t u : TT} {a b c d : D} {r : R2}
theorem Nw.trans {F F1 F2 H H1 : Hp} (a : Nw F F1 H) (b : Nw F1 F2 H1) (e : Ex H H1) : Nw F F2 H := fun x o h => by
  rcases b x o h with z | z
  · exact a x o z
  · exact .inr (ex_none e z)
theorem e_var {i : Nat} (h : G[i]? = some (.dat d)) : EvD K (tVar i) G d := .mk fun {H0 F0 F H σ} E Q q => by
  obtain ⟨v, h1, h2⟩ := E.dat i d h
  exact ⟨v, h1, q v F H E (Ex.refl F) (Ex.refl H) (Nw.refl F H) h2⟩
theorem e_none : EvD K (tC .non) G .non := .mk fun {H0 F0 F H σ} E Q q => q _ F H E (Ex.refl F) (Ex.refl H) (Nw.refl F H) .non
theorem e_int {i : Int} : EvD K (tC (.int i)) G (.int i) := .mk fun {H0 F0 F H σ} E Q q => q _ F H E (Ex.refl F) (Ex.refl H) (Nw.refl F H) (.int i)
theorem e_bl {i : Bool} : EvD K (tC (.bl i)) G (.bl i) := .mk fun {H0 F0 F H σ} E Q q => q _ F H E (Ex.refl F) (Ex.refl H) (Nw.refl F H) (.bl i)
theorem e_str {i : Str} : EvD K (tC (.str i)) G (.str i) := .mk fun {H0 F0 F H σ} E Q q => q _ F H E (Ex.refl F) (Ex.refl H) (Nw.refl F H) (.str i)
theorem e_is (h : EvD K te G a) (e : a = b) : EvD K te G b := e ▸ h
theorem t_is {x y : Bool} (h : EvTt K t G x) (e : x = y) : EvTt K t G y := e ▸ h
theorem e_op (h1 : EvD K ta G a) (h2 : EvD K tb G b) (h3 : Op2 K r a b c) : EvD K (tOp r ta tb) G c := .mk fun {H0 F0 F H σ} E Q q =>
  h1 E _ fun v F1 H1 E1 f1 g1 n1 r1 => h2 E1 _ fun w F2 H2 E2 f2 g2 n2 r2 => h3 E2.ef (r1.mono f2) r2 Q fun z F3 H3 f3 k3 g3 n3 r3 =>
    q z F3 H3 (E2.grow f3 g3 k3 n3) ((f1.trans f2).trans f3) ((g1.trans g2).trans g3) ((n1.trans n2 g1).trans n3 (g1.trans g2)) r3
theorem o_op {l : List D} (h1 : EvD K ta G a) (h2 : EvD K tb G b) (h3 : Op2O K r a b l) : EvO K (tOp r ta tb) G l := .mk fun {H0 F0 F H σ} E Q q =>
  h1 E _ fun v F1 H1 E1 f1 g1 n1 r1 => h2 E1 _ fun w F2 H2 E2 f2 g2 n2 r2 => h3 E2.ef (r1.mono f2) r2 Q fun p xs H3 g3 hp hp3 r3 =>
    q p xs F2 H3 (E2.grow (Ex.refl _) g3 (E2.ef.trans g3) (Nw.refl _ _)) (f1.trans f2) ((g1.trans g2).trans g3) (n1.trans n2 g1) (ex_none (g1.trans g2) hp) (ex_none E2.ef hp) hp3 r3
/-- a new list, shared -/
theorem e_share {l : List D} (h : EvO K te G l) : EvD K te G (.lst l) := .mk fun {H0 F0 F H σ} E Q q => h E Q fun p xs F1 H1 E1 f1 g1 n1 hp hf h1 r1 => by
  have ef : Ex F1 (upd F1 p (.lst xs)) := Ex.new hf
  have n2 : Nw F (upd F1 p (.lst xs)) H := nw_upd hp n1
  refine q (.ref p) (upd F1 p (.lst xs)) H1 (E.grow (f1.trans ef) g1 (fun z o y => ?_) n2) (f1.trans ef) g1 n2 (.lst upd_same (r1.mono ef))
  by_cases hz : z = p
  · subst hz
    rw [upd_same] at y
    cases y
    exact h1
  · rw [upd_ne hz] at y
    exact E1.ef z o y
theorem e_un {r : V → Hp → VK → Prop} (h1 : EvD K ta G a) (h3 : Op1 K r a c) : EvD K (tUn r ta) G c := .mk fun {H0 F0 F H σ} E Q q =>
  h1 E _ fun v F1 H1 E1 f1 g1 n1 r1 => h3 E1.ef r1 Q fun z F3 H3 f3 k3 g3 n3 r3 => q z F3 H3 (E1.grow f3 g3 k3 n3) (f1.trans f3) (g1.trans g3) (n1.trans n3 g1) r3
theorem s_nil : EvS K tNil G [] := .mk fun {H0 F0 F H σ} E Q q => q [] F H E (Ex.refl F) (Ex.refl H) (Nw.refl F H) .nil
theorem s_cons {tr : TA} {ds : List D} (h : EvD K ta G a) (hr : EvS K tr G ds) : EvS K (tCons ta tr) G (a :: ds) := .mk fun {H0 F0 F H σ} E Q q =>
  h E _ fun v F1 H1 E1 f1 g1 n1 r1 => hr E1 _ fun vs F2 H2 E2 f2 g2 n2 r2 => q (v :: vs) F2 H2 E2 (f1.trans f2) (g1.trans g2) (n1.trans n2 g1) (.cons (r1.mono f2) r2)
theorem e_tup {ta : TA} {ds : List D} (h : EvS K ta G ds) (hl : ds.length ≤ 100000) : EvD K (tTup ta) G (.tup ds) := .mk fun {H0 F0 F H σ} E Q q =>
  h E _ fun vs F1 H1 E1 f1 g1 n1 r1 => ⟨sz_of (by rw [r1.length]; exact hl), fun p hp => by
    have ef : Ex F1 (upd F1 p (.tup vs)) := Ex.new (ex_none E1.ef hp)
    have n2 : Nw F1 (upd F1 p (.tup vs)) H1 := nw_upd hp (Nw.refl _ _)
    exact q _ _ _ (E1.grow ef (Ex.new hp) (ex_upd_both E1.ef) n2) (f1.trans ef) (g1.trans (Ex.new hp)) (n1.trans n2 g1) (.tup upd_same (r1.mono ef))⟩
theorem o_lst {ta : TA} {ds : List D} (h : EvS K ta G ds) (hl : ds.length ≤ 100000) : EvO K (tLst ta) G ds := .mk fun {H0 F0 F H σ} E Q q =>
  h E _ fun vs F1 H1 E1 f1 g1 n1 r1 => ⟨sz_of (by rw [r1.length]; exact hl), fun p hp =>
    q p vs F1 _ (E1.grow (Ex.refl _) (Ex.new hp) (E1.ef.trans (Ex.new hp)) (Nw.refl _ _)) f1 (g1.trans (Ex.new hp)) n1 (ex_none g1 hp) (ex_none E1.ef hp) upd_same r1⟩
theorem e_cb {r : List V → Hp → VK → Prop} {ta : TA} {ds : List D} (h : EvS K ta G ds) (hr : OpN K r ds c) : EvD K (tCB r ta) G c := .mk fun {H0 F0 F H σ} E Q q =>
  h E _ fun vs F1 H1 E1 f1 g1 n1 r1 => hr E1.ef r1 Q fun z F3 H3 f3 k3 g3 n3 r3 => q z F3 H3 (E1.grow f3 g3 k3 n3) (f1.trans f3) (g1.trans g3) (n1.trans n3 g1) r3
theorem o_cb {r : List V → Hp → VK → Prop} {ta : TA} {ds l : List D} (h : EvS K ta G ds) (hr : OpNO K r ds l) : EvO K (tCB r ta) G l := .mk fun {H0 F0 F H σ} E Q q =>
  h E _ fun vs F1 H1 E1 f1 g1 n1 r1 => hr E1.ef r1 Q fun p xs H3 g3 hp hp3 r3 => q p xs F1 H3 (E1.grow (Ex.refl _) g3 (E1.ef.trans g3) (Nw.refl _ _)) f1 (g1.trans g3) n1 (ex_none g1 hp) (ex_none E1.ef hp) hp3 r3
/-! tests -/
theorem t_test {x : Bool} (h : EvD K te G (.bl x)) : EvTt K (tTest te) G x := .mk fun {H0 F0 F H σ} E Q q => h E _ fun v F1 H1 E1 f1 g1 n1 r1 => by
  cases r1
  exact ⟨x, rfl, q F1 H1 E1 f1 g1 n1⟩
theorem t_B {x : Bool} (h : EvD K te G (.bl x)) : EvTt K (tB te) G x := .mk fun {H0 F0 F H σ} E Q q => h E _ fun v F1 H1 E1 f1 g1 n1 r1 => by
  cases r1
  exact ⟨x, rfl, q F1 H1 E1 f1 g1 n1⟩
theorem t_and {x y : Bool} (h1 : EvTt K t G x) (h2 : x = true → EvTt K u G y) : EvTt K (tAnd t u) G (x && y) := .mk fun {H0 F0 F H σ} E Q q => h1 E _ fun F1 H1 E1 f1 g1 n1 => by
  cases x with
  | true =>
    show u σ H1 Q
    exact h2 rfl E1 Q fun F2 H2 E2 f2 g2 n2 => q F2 H2 E2 (f1.trans f2) (g1.trans g2) (n1.trans n2 g1)
  | false =>
    show Q false H1
    exact q F1 H1 E1 f1 g1 n1
theorem t_or {x y : Bool} (h1 : EvTt K t G x) (h2 : x = false → EvTt K u G y) : EvTt K (tOr t u) G (x || y) := .mk fun {H0 F0 F H σ} E Q q => h1 E _ fun F1 H1 E1 f1 g1 n1 => by
  cases x with
  | false =>
    show u σ H1 Q
    exact h2 rfl E1 Q fun F2 H2 E2 f2 g2 n2 => q F2 H2 E2 (f1.trans f2) (g1.trans g2) (n1.trans n2 g1)
  | true =>
    show Q true H1
    exact q F1 H1 E1 f1 g1 n1
theorem t_not {x : Bool} (h1 : EvTt K t G x) : EvTt K (tNot t) G (!x) := .mk fun {H0 F0 F H σ} E Q q => h1 E _ fun F1 H1 E1 f1 g1 n1 => q F1 H1 E1 f1 g1 n1
theorem t_yes : EvTt K tYes G true := .mk fun {H0 F0 F H σ} E Q q => q F H E (Ex.refl F) (Ex.refl H) (Nw.refl F H)
theorem e_andV {x y : Bool} (h1 : EvD K ta G (.bl x)) (h2 : x = true → EvD K tb G (.bl y)) : EvD K (tAndV ta tb) G (.bl (x && y)) := .mk fun {H0 F0 F H σ} E Q q => h1 E _ fun v F1 H1 E1 f1 g1 n1 r1 => by
  cases r1
  refine ⟨x, rfl, ?_⟩
  cases x with
  | true =>
    show tb σ H1 Q
    exact h2 rfl E1 Q fun w F2 H2 E2 f2 g2 n2 r2 => q w F2 H2 E2 (f1.trans f2) (g1.trans g2) (n1.trans n2 g1) r2
  | false =>
    show Q (.bl false) H1
    exact q _ F1 H1 E1 f1 g1 n1 (.bl _)
theorem e_orV {x y : Bool} (h1 : EvD K ta G (.bl x)) (h2 : x = false → EvD K tb G (.bl y)) : EvD K (tOrV ta tb) G (.bl (x || y)) := .mk fun {H0 F0 F H σ} E Q q => h1 E _ fun v F1 H1 E1 f1 g1 n1 r1 => by
  cases r1
  refine ⟨x, rfl, ?_⟩
  cases x with
  | false =>
    show tb σ H1 Q
    exact h2 rfl E1 Q fun w F2 H2 E2 f2 g2 n2 r2 => q w F2 H2 E2 (f1.trans f2) (g1.trans g2) (n1.trans n2 g1) r2
  | true =>
    show Q (.bl true) H1
    exact q _ F1 H1 E1 f1 g1 n1 (.bl _)
theorem e_notV {x : Bool} (h1 : EvD K ta G (.bl x)) : EvD K (tNotV ta) G (.bl (!x)) := .mk fun {H0 F0 F H σ} E Q q => h1 E _ fun v F1 H1 E1 f1 g1 n1 r1 => by
  cases r1
  exact ⟨x, rfl, q _ F1 H1 E1 f1 g1 n1 (.bl _)⟩
theorem e_if {x : Bool} (h : EvTt K t G x) (h1 : x = true → EvD K ta G d) (h2 : x = false → EvD K tb G d) : EvD K (tIf t ta tb) G d := .mk fun {H0 F0 F H σ} E Q q => h E _ fun F1 H1 E1 f1 g1 n1 => by
  cases x with
  | true =>
    show ta σ H1 Q
    exact h1 rfl E1 Q fun w F2 H2 E2 f2 g2 n2 r2 => q w F2 H2 E2 (f1.trans f2) (g1.trans g2) (n1.trans n2 g1) r2
  | false =>
    show tb σ H1 Q
    exact h2 rfl E1 Q fun w F2 H2 E2 f2 g2 n2 r2 => q w F2 H2 E2 (f1.trans f2) (g1.trans g2) (n1.trans n2 g1) r2
theorem e_ite {p : Prop} [Decidable p] {x : Bool} (h : EvTt K t G x) (hx : x = decide p) (h1 : p → EvD K ta G a) (h2 : ¬ p → EvD K tb G b) : EvD K (tIf t ta tb) G (if p then a else b) := by
  subst hx
  refine e_if h (fun q => ?_) (fun q => ?_)
  · rw [if_pos (of_decide_eq_true q)]
    exact h1 (of_decide_eq_true q)
  · rw [if_neg (of_decide_eq_false q)]
    exact h2 (of_decide_eq_false q)
/-- a chain of two comparisons -/
theorem e_chain {r r' : R2} {tc : TE} {x y : Bool} (h1 : EvD K ta G a) (h2 : EvD K tb G b) (h3 : Op2 K r a b (.bl x)) (h4 : x = true → EvD K tc G c) (h5 : x = true → Op2 K r' b c (.bl y)) : EvD K (tChain r r' ta tb tc) G (.bl (x && y)) := .mk fun {H0 F0 F H σ} E Q q =>
  h1 E _ fun v F1 H1 E1 f1 g1 n1 r1 => h2 E1 _ fun w F2 H2 E2 f2 g2 n2 r2 => h3 E2.ef (r1.mono f2) r2 _ fun z F3 H3 f3 k3 g3 n3 r3 => by
    cases r3
    refine ⟨x, rfl, ?_⟩
    have E3 := E2.grow f3 g3 k3 n3
    have N3 := ((n1.trans n2 g1).trans n3 (g1.trans g2))
    cases x with
    | true =>
      show tc σ H3 fun w' H4 => r' w w' H4 Q
      exact h4 rfl E3 _ fun w4 F4 H4 E4 f4 g4 n4 r4 => h5 rfl E4.ef (r2.mono (f3.trans f4)) r4 Q fun z5 F5 H5 f5 k5 g5 n5 r5 =>
        q z5 F5 H5 (E4.grow f5 g5 k5 n5) ((((f1.trans f2).trans f3).trans f4).trans f5) ((((g1.trans g2).trans g3).trans g4).trans g5) ((N3.trans n4 ((g1.trans g2).trans g3)).trans n5 (((g1.trans g2).trans g3).trans g4)) r5
    | false =>
      show Q (.bl false) H3
      exact q _ F3 H3 E3 ((f1.trans f2).trans f3) ((g1.trans g2).trans g3) N3 (.bl _)
theorem p_none : EvP K tNoPart G none := .mk fun {H0 F0 F H σ} E Q q => q F H E (Ex.refl F) (Ex.refl H) (Nw.refl F H)
theorem p_some {i : Int} (h : EvD K te G (.int i)) : EvP K (tPart te) G (some i) := .mk fun {H0 F0 F H σ} E Q q => h E _ fun v F1 H1 E1 f1 g1 n1 r1 => by
  cases r1
  exact ⟨i, rfl, q F1 H1 E1 f1 g1 n1⟩
/-- what is read of an owned list for a moment -/
theorem e_peek {i : Nat} {l : Ow} (h : G[i]? = some (.own l)) (hv : EvD K te (G.set i (.dat (datOf l))) d) (hd : ∀ {F F' : Hp} {v : V}, Rp K F v d → Rp K F' v d) : EvD K te G d := .mk fun {H0 F0 F H σ} E Q q => by
  obtain ⟨F1, f1, E1⟩ := E.freeze h
  refine hv E1 Q fun v F2 H2 E2 f2 g2 n2 r2 => q v F H2 ?_ (Ex.refl F) g2 (Nw.refl F H) (hd r2)
  exact E.grow (Ex.refl F) g2 (E.ef.trans g2) (Nw.refl F H)
theorem t_peek {i : Nat} {l : Ow} {x : Bool} (h : G[i]? = some (.own l)) (hv : EvTt K t (G.set i (.dat (datOf l))) x) : EvTt K t G x := .mk fun {H0 F0 F H σ} E Q q => by
  obtain ⟨F1, f1, E1⟩ := E.freeze h
  refine hv E1 Q fun F2 H2 E2 f2 g2 n2 => q F H2 ?_ (Ex.refl F) g2 (Nw.refl F H)
  exact E.grow (Ex.refl F) g2 (E.ef.trans g2) (Nw.refl F H)
end
theorem fix_int {K : PySem.W.Frag} {i : Int} {F F' : Hp} {v : V} (h : Rp K F v (.int i)) : Rp K F' v (.int i) := by
  cases h
  exact .int i
theorem fix_bl {K : PySem.W.Frag} {i : Bool} {F F' : Hp} {v : V} (h : Rp K F v (.bl i)) : Rp K F' v (.bl i) := by
  cases h
  exact .bl i
theorem fix_str {K : PySem.W.Frag} {i : Str} {F F' : Hp} {v : V} (h : Rp K F v (.str i)) : Rp K F' v (.str i) := by
  cases h
  exact .str i
theorem fix_non {K : PySem.W.Frag} {F F' : Hp} {v : V} (h : Rp K F v .non) : Rp K F' v .non := by
  cases h
  exact .non

/-! statements -/
inductive Out where
  | nx (G : List Sl)
  | rt (d : D)
  | ro (l : List D)
  | ro2 (l m : List D)
  | ex (C : Addr) (X : XK)
  | bk (G : List Sl)
  | ct (G : List Sl)
/-- what a return leaves -/
structure Ro (H0 F0 F' H' : Hp) : Prop where
  e0 : Ex H0 H'
  ef : Ex F' H'
  e1 : Ex F0 F'
  nf : ∀ a o, F' a = some o → F0 a = some o ∨ H0 a = none
theorem En.ro {K : PySem.W.Frag} {H0 F0 F H : Hp} {σ : L2.St} {G : List Sl} (E : En K H0 F0 F H σ G) : Ro H0 F0 F H := ⟨E.e0, E.ef, E.e1, E.nf⟩
def Post (K : PySem.W.Frag) (H0 F0 F : Hp) (o : Out) (E : Ends) : Prop := match o with
  | .nx G => ∀ σ F' H', En K H0 F0 F' H' σ G → Ex F F' → E.nx σ H'
  | .bk G => ∀ σ F' H', En K H0 F0 F' H' σ G → Ex F F' → E.bk σ H'
  | .ct G => ∀ σ F' H', En K H0 F0 F' H' σ G → Ex F F' → E.ct σ H'
  | .rt d => ∀ v F' H', Ro H0 F0 F' H' → Rp K F' v d → E.rt v H'
  | .ro l => ∀ p xs F' H', Ro H0 F0 F' H' → H0 p = none → F' p = none → H' p = some (.lst xs) → RpA K F' xs l → E.rt (.ref p) H'
  | .ro2 l m => ∀ t p xs q ys F' H', Ro H0 F0 F' H' → H' t = some (.tup [.ref p, .ref q]) → p ≠ q → H0 p = none → F' p = none → H' p = some (.lst xs) → RpA K F' xs l → H0 q = none → F' q = none → H' q = some (.lst ys) → RpA K F' ys m → E.rt (.ref t) H'
  | .ex C X => ∀ F' H', Ro H0 F0 F' H' → X (.ref C) none H'
structure StD (K : PySem.W.Frag) (t : TS) (G : List Sl) (o : Out) : Prop where
  run : ∀ {H0 F0 F H : Hp} {σ : L2.St} {E : Ends}, En K H0 F0 F H σ G → Post K H0 F0 F o E → t E σ H
instance {K : PySem.W.Frag} {t : TS} {G : List Sl} {o : Out} : CoeFun (StD K t G o) fun _ => ∀ {H0 F0 F H : Hp} {σ : L2.St} {E : Ends}, En K H0 F0 F H σ G → Post K H0 F0 F o E → t E σ H := ⟨fun h => h.run⟩
/-- assigning to a target -/
structure TgD (K : PySem.W.Frag) (g : TG) (G : List Sl) (d : D) (G' : List Sl) : Prop where
  run : ∀ {H0 F0 F H : Hp} {σ : L2.St} {v : V}, En K H0 F0 F H σ G → Rp K F v d → ∀ Q : L2.St → Hp → Prop, (∀ σ', En K H0 F0 F H σ' G' → Q σ' H) → g v σ H Q
instance {K : PySem.W.Frag} {g : TG} {G : List Sl} {d : D} {G' : List Sl} : CoeFun (TgD K g G d G') fun _ => ∀ {H0 F0 F H : Hp} {σ : L2.St} {v : V}, En K H0 F0 F H σ G → Rp K F v d → ∀ Q : L2.St → Hp → Prop, (∀ σ', En K H0 F0 F H σ' G' → Q σ' H) → g v σ H Q := ⟨fun h => h.run⟩
structure TgsD (K : PySem.W.Frag) (g : TGs) (G : List Sl) (ds : List D) (G' : List Sl) : Prop where
  run : ∀ {H0 F0 F H : Hp} {σ : L2.St} {vs : List V}, En K H0 F0 F H σ G → RpA K F vs ds → ∀ Q : L2.St → Hp → Prop, (∀ σ', En K H0 F0 F H σ' G' → Q σ' H) → g vs σ H Q
instance {K : PySem.W.Frag} {g : TGs} {G : List Sl} {ds : List D} {G' : List Sl} : CoeFun (TgsD K g G ds G') fun _ => ∀ {H0 F0 F H : Hp} {σ : L2.St} {vs : List V}, En K H0 F0 F H σ G → RpA K F vs ds → ∀ Q : L2.St → Hp → Prop, (∀ σ', En K H0 F0 F H σ' G' → Q σ' H) → g vs σ H Q := ⟨fun h => h.run⟩
section
variable {K : PySem.W.Frag} {G G1 G2 : List Sl} {ta tb te tx : TE} {t u : TT} {tu tw tz : TS} {a b c d : D} {o : Out} {g : TG} {gs : TGs}
theorem Post.weak {H0 F0 F F1 : Hp} {E : Ends} (h : Post K H0 F0 F o E) (f : Ex F F1) : Post K H0 F0 F1 o E := by
  cases o with
  | nx G => exact fun σ F' H' e x => h σ F' H' e (f.trans x)
  | bk G => exact fun σ F' H' e x => h σ F' H' e (f.trans x)
  | ct G => exact fun σ F' H' e x => h σ F' H' e (f.trans x)
  | rt d => exact h
  | ro l => exact h
  | ro2 l m => exact h
  | ex C X => exact h
theorem g_name {i : Nat} : TgD K (gName i) G d (G.set i (.dat d)) := .mk fun {H0 F0 F H σ v} E r Q q => q _ (E.setD r i)
theorem gs_nil : TgsD K gNil G [] G := .mk fun {H0 F0 F H σ vs} E r Q q => by
  cases r
  exact ⟨rfl, q σ E⟩
theorem gs_cons {ds : List D} (h1 : TgD K g G d G1) (h2 : TgsD K gs G1 ds G2) : TgsD K (gCons g gs) G (d :: ds) G2 := .mk fun {H0 F0 F H σ vs} E r Q q => by
  cases r with
  | cons r1 r2 => exact ⟨_, _, rfl, h1 E r1 _ fun σ1 E1 => h2 E1 r2 Q q⟩
theorem g_tup {ds : List D} {n : Nat} (h : TgsD K gs G ds G1) (hn : ds.length = n) : TgD K (gTup K n gs) G (.tup ds) G1 := .mk fun {H0 F0 F H σ v} E r Q q => by
  cases r with
  | tup ha rs => exact ⟨_, _, rfl, Or.inl (Or.inl (E.ef _ _ ha)), by rw [rs.length]; exact hn, h E rs Q q⟩
theorem st_asg (h : EvD K te G d) (hg : TgD K g G d G1) : StD K (tAsg te g) G (.nx G1) := .mk fun {H0 F0 F H σ E} En p => h En _ fun v F1 H1 E1 f1 g1 n1 r1 => hg E1 r1 _ fun σ2 E2 => p σ2 F1 H1 E2 f1
theorem st_asgO {i : Nat} {l : List D} (h : EvO K te G l) : StD K (tAsg te (gName i)) G (.nx (G.set i (.own (.lst l)))) := .mk fun {H0 F0 F H σ E} En p => h En _ fun q xs F1 H1 E1 f1 g1 n1 hq hf h1 r1 =>
  p _ F1 H1 (E1.setO hf (ex_none En.e0 hq) h1 (.lst r1) i fun j lj hj _ hs => by
    obtain ⟨p2, xs2, a2, b2, c2, d2, r2⟩ := En.own j lj hj
    rw [a2] at hs
    cases hs
    rw [hq] at d2
    cases d2) f1
theorem st_seq (h1 : StD K tu G (.nx G1)) (h2 : StD K tw G1 o) : StD K (tSeq tu tw) G o := .mk fun {H0 F0 F H σ E} En p => h1.run (E := { E with nx := tw E }) En fun σ1 F1 H1 E1 f1 => h2 E1 (p.weak f1)
theorem st_stop (h1 : StD K tu G o) (ho : ∀ G, o ≠ .nx G) : StD K (tSeq tu tw) G o := .mk fun {H0 F0 F H σ E} En p => h1.run (E := { E with nx := tw E }) En (by
  cases o with
  | nx G => exact absurd rfl (ho G)
  | bk G => exact p
  | ct G => exact p
  | rt d => exact p
  | ro l => exact p
  | ro2 l m => exact p
  | ex C X => exact p)
theorem st_next : StD K tNext G (.nx G) := .mk fun {H0 F0 F H σ E} En p => p σ F H En (Ex.refl F)
theorem st_ret (h : EvD K te G d) : StD K (tRet te) G (.rt d) := .mk fun {H0 F0 F H σ E} En p => h En _ fun v F1 H1 E1 f1 g1 n1 r1 => p v F1 H1 E1.ro r1
theorem st_retO {l : List D} (h : EvO K te G l) : StD K (tRet te) G (.ro l) := .mk fun {H0 F0 F H σ E} En p => h En _ fun q xs F1 H1 E1 f1 g1 n1 hq hf h1 r1 => p q xs F1 H1 E1.ro (ex_none En.e0 hq) hf h1 r1
theorem st_retV {i : Nat} {l : List D} (h : G[i]? = some (.own (.lst l))) : StD K (tRet (tVar i)) G (.ro l) := .mk fun {H0 F0 F H σ E} En p => by
  obtain ⟨q, o, a1, b1, c1, d1, r1⟩ := En.own i _ h
  cases r1 with
  | lst r1 => exact ⟨_, a1, p q _ F H En.ro c1 b1 d1 r1⟩
theorem st_brk : StD K tBreak G (.bk G) := .mk fun {H0 F0 F H σ E} En p => p σ F H En (Ex.refl F)
theorem st_cont : StD K tCont G (.ct G) := .mk fun {H0 F0 F H σ E} En p => p σ F H En (Ex.refl F)
theorem st_if {x : Bool} (h : EvTt K t G x) (h1 : x = true → StD K tu G o) (h2 : x = false → StD K tw G o) : StD K (tIfS t tu tw) G o := .mk fun {H0 F0 F H σ E} En p => h En _ fun F1 H1 E1 f1 g1 n1 => by
  cases x with
  | true =>
    show tu E σ H1
    exact h1 rfl E1 (p.weak f1)
  | false =>
    show tw E σ H1
    exact h2 rfl E1 (p.weak f1)
theorem st_drop (h : EvD K te G d) : StD K (tDrop te) G (.nx G) := .mk fun {H0 F0 F H σ E} En p => h En _ fun v F1 H1 E1 f1 g1 n1 r1 => p σ F1 H1 E1 f1
theorem st_freeze {i : Nat} {l : Ow} (h : G[i]? = some (.own l)) (hs : StD K tu (G.set i (.dat (datOf l))) o) : StD K tu G o := .mk fun {H0 F0 F H σ E} En p => by
  obtain ⟨F1, f1, E1⟩ := En.freeze h
  exact hs E1 (p.weak f1)
/-- forgetting a slot -/
theorem st_is {o' : Out} (h : StD K tu G o) (e : o = o') : StD K tu G o' := e ▸ h
theorem e_own {i : Nat} {l : List D} (h : G[i]? = some (.own (.lst l))) {H0 F0 F H : Hp} {σ : L2.St} (E : En K H0 F0 F H σ G) {Q : VK} (q : ∀ p xs, σ[i]? = some (some (.ref p)) → H p = some (.lst xs) → F p = none → RpA K F xs l → Q (.ref p) H) : tVar i σ H Q := by
  obtain ⟨p, o, a1, b1, c1, d1, r1⟩ := E.own i _ h
  cases r1 with
  | lst r1 => exact ⟨_, a1, q p _ a1 d1 b1 r1⟩
/-- xs.append(e) -/
theorem st_app {i : Nat} {l : List D} (h : G[i]? = some (.own (.lst l))) (he : EvD K te G d) (hz : l.length < 100000) : StD K (tDrop (tBM K "list" rAppend (tVar i) (tCons te tNil))) G (.nx (G.set i (.own (.lst (l ++ [d]))))) := .mk fun {H0 F0 F H σ E} En p =>
  by
  unfold tDrop tBM
  exact e_own h En fun q xs hq hH hF hr => ⟨Or.inl ⟨rfl, xs, sq_of hH⟩, he En _ fun v F1 H1 E1 f1 g1 n1 r1 => by
    refine ⟨q, xs, v, rfl, rfl, g1 _ _ hH, sz_lt (by rw [hr.length]; exact hz), ?_⟩
    exact p σ F1 _ (E1.mut h hq (.lst ((hr.mono f1).app (.cons r1 .nil)))) f1⟩
/-- xs[j] = e -/
theorem st_setI {i : Nat} {l : List D} {j : Nat} (h : G[i]? = some (.own (.lst l))) (he : EvD K te G d) (hi : EvD K tx G (.int (j : Int))) (hj : j < l.length) : StD K (tAsg te (gSub (tVar i) tx rSetL)) G (.nx (G.set i (.own (.lst (l.set j d))))) := .mk fun {H0 F0 F H σ E} En p =>
  he En _ fun v F1 H1 E1 f1 g1 n1 r1 => e_own h E1 fun q xs hq hH hF hr => hi E1 _ fun w F2 H2 E2 f2 g2 n2 r2 => by
    cases r2
    refine ⟨q, xs, (j : Int), j, rfl, rfl, g2 _ _ hH, ixN_nat (by rw [hr.length]; exact hj), ?_⟩
    exact p σ F2 _ (E2.mut h hq (.lst ((hr.mono f2).set (r1.mono f2) j))) (f1.trans f2)
end
end Cy

set_option Elab.async false
set_option linter.all false
set_option maxRecDepth 100000
set_option maxHeartbeats 2000000
namespace Cy
open PySem L2 Evl

/-! promises over data -/
/-- hands back a value that bears d -/
def spD (K : PySem.W.Frag) (R : List D → D → Prop) : Sp := fun vs H Q _ => ∃ F ds d, Ex F H ∧ RpA K F vs ds ∧ R ds d ∧ ∀ v F' H', Ro H F F' H' → Rp K F' v d → Q v H'
/-- hands back a new list -/
def spO (K : PySem.W.Frag) (R : List D → List D → Prop) : Sp := fun vs H Q _ => ∃ F ds l, Ex F H ∧ RpA K F vs ds ∧ R ds l ∧ ∀ p xs F' H', Ro H F F' H' → H p = none → F' p = none → H' p = some (.lst xs) → RpA K F' xs l → Q (.ref p) H'
section
variable {K : PySem.W.Frag} {G G1 G2 : List Sl} {ta : TA} {te tx : TE} {t u tt : TT} {tu tw tz : TS} {d : D} {ds l : List D} {o : Out} {g : TG}
theorem Ro.nw {H0 F0 F' H' : Hp} (r : Ro H0 F0 F' H') : Nw F0 F' H0 := r.nf
theorem e_call {R : List D → D → Prop} {E : XK} (h : EvS K ta G ds) (hR : R ds d) : EvD K (tCall (spD K R) [] E ta) G d := .mk fun {H0 F0 F H σ} En Q q =>
  h En _ fun vs F1 H1 E1 f1 g1 n1 r1 => by
    refine ⟨F1, ds, d, E1.ef, by rw [List.append_nil]; exact r1, hR, fun v F2 H2 ro r2 => ?_⟩
    exact q v F2 H2 (E1.grow ro.e1 ro.e0 ro.ef ro.nf) (f1.trans ro.e1) (g1.trans ro.e0) (n1.trans ro.nf g1) r2
theorem o_call {R : List D → List D → Prop} {E : XK} (h : EvS K ta G ds) (hR : R ds l) : EvO K (tCall (spO K R) [] E ta) G l := .mk fun {H0 F0 F H σ} En Q q =>
  h En _ fun vs F1 H1 E1 f1 g1 n1 r1 => by
    refine ⟨F1, ds, l, E1.ef, by rw [List.append_nil]; exact r1, hR, fun p xs F2 H2 ro hp hf hh r2 => ?_⟩
    exact q p xs F2 H2 (E1.grow ro.e1 ro.e0 ro.ef ro.nf) (f1.trans ro.e1) (g1.trans ro.e0) (n1.trans ro.nf g1) (ex_none g1 hp) hf hh r2
/-- the slots at a def's entry -/
def args (n : Nat) (ds : List D) : List Sl := ds.map Sl.dat ++ List.replicate (n - ds.length) Sl.no
theorem start_en {N : List Str} {vs : List V} {F H : Hp} (e : Ex F H) (r : RpA K F vs ds) (hn : ds.length ≤ N.length) : En K H F F H (start N vs) (args N.length ds) := by
  have hs : start N vs = vs.map some ++ List.replicate (N.length - vs.length) none := by
    first | rfl | (unfold start; rfl)
  have hl := r.length
  rw [hs, hl]
  unfold args
  refine ⟨fun i d h => ?_, fun i l h => ?_, fun i j li lj p hij h1 h2 h3 => ?_, Ex.refl H, e, Ex.refl F, fun a o h => .inl h, ?_⟩
  · by_cases hi : i < ds.length
    · rw [List.getElem?_append_left (by rw [List.length_map]; exact hi), List.getElem?_map] at h
      cases q : ds[i]? with
      | none =>
        rw [q] at h
        cases h
      | some e' =>
        rw [q] at h
        cases h
        obtain ⟨v, h1, h2⟩ := r.get q
        refine ⟨v, ?_, h2⟩
        rw [List.getElem?_append_left (by rw [List.length_map, hl]; exact hi), List.getElem?_map, h1]
        rfl
    · rw [List.getElem?_append_right (by rw [List.length_map]; omega), List.length_map] at h
      have := List.mem_of_getElem? h
      rw [List.mem_replicate] at this
      cases this.2
  · by_cases hi : i < ds.length
    · rw [List.getElem?_append_left (by rw [List.length_map]; exact hi), List.getElem?_map] at h
      cases q : ds[i]? with
      | none =>
        rw [q] at h
        cases h
      | some e' =>
        rw [q] at h
        cases h
    · rw [List.getElem?_append_right (by rw [List.length_map]; omega), List.length_map] at h
      have := List.mem_of_getElem? h
      rw [List.mem_replicate] at this
      cases this.2
  · by_cases hi : i < ds.length
    · rw [List.getElem?_append_left (by rw [List.length_map]; exact hi), List.getElem?_map] at h1
      cases q : ds[i]? with
      | none =>
        rw [q] at h1
        cases h1
      | some e' =>
        rw [q] at h1
        cases h1
    · rw [List.getElem?_append_right (by rw [List.length_map]; omega), List.length_map] at h1
      have := List.mem_of_getElem? h1
      rw [List.mem_replicate] at this
      cases this.2
  · rw [List.length_append, List.length_append, List.length_map, List.length_map, List.length_replicate, List.length_replicate, hl]
/-- a def's body, read from its arguments' data -/
theorem body_D {N : List Str} {R : List D → D → Prop} {vs : List V} {H : Hp} {Q : VK} {E : XK} {t : TS} (h : spD K R vs H Q E) (hn : ∀ ds d, R ds d → ds.length ≤ N.length)
    (hb : ∀ ds d, R ds d → StD K t (args N.length ds) (.rt d)) : t { nx := fun _ H' => Q .non H', rt := Q } (start N vs) H := by
  obtain ⟨F, ds, d, e, r, hR, q⟩ := h
  exact hb ds d hR (start_en e r (hn ds d hR)) fun v F' H' ro r' => q v F' H' ro r'
/-- .. that ends without a return -/
theorem body_N {N : List Str} {R : List D → D → Prop} {vs : List V} {H : Hp} {Q : VK} {E : XK} {t : TS} (h : spD K R vs H Q E) (hn : ∀ ds d, R ds d → ds.length ≤ N.length)
    (hb : ∀ ds d, R ds d → d = .non ∧ ∃ G, StD K t (args N.length ds) (.nx G)) : t { nx := fun _ H' => Q .non H', rt := Q } (start N vs) H := by
  obtain ⟨F, ds, d, e, r, hR, q⟩ := h
  obtain ⟨hd, G, hs⟩ := hb ds d hR
  subst hd
  exact hs (start_en e r (hn ds _ hR)) fun σ F' H' E' f' => q .non F' H' E'.ro .non
theorem body_O {N : List Str} {R : List D → List D → Prop} {vs : List V} {H : Hp} {Q : VK} {E : XK} {t : TS} (h : spO K R vs H Q E) (hn : ∀ ds d, R ds d → ds.length ≤ N.length)
    (hb : ∀ ds d, R ds d → StD K t (args N.length ds) (.ro d)) : t { nx := fun _ H' => Q .non H', rt := Q } (start N vs) H := by
  obtain ⟨F, ds, d, e, r, hR, q⟩ := h
  exact hb ds d hR (start_en e r (hn ds d hR)) fun p xs F' H' ro h0 hf hh r' => q p xs F' H' ro h0 hf hh r'

/-! walks -/
/-- the walk J gives these, one by one -/
structure WkD (K : PySem.W.Frag) (F : Hp) (J : It) (items : List D) : Prop where
  ex : ∃ Gp Y, Walk J items.length Gp Y ∧ (∀ H, Ex F H → Gp H) ∧ ∀ i H x H' F1, Ex F F1 → Ex F1 H → Y i H x H' → ∃ F2 d, Ex F1 F2 ∧ Ex H H' ∧ Ex F2 H' ∧ Nw F1 F2 H ∧ items[i]? = some d ∧ Rp K F2 x d
structure ItD (K : PySem.W.Frag) (wi : TI) (G : List Sl) (items : List D) : Prop where
  run : ∀ {H0 F0 F H : Hp} {σ : L2.St}, En K H0 F0 F H σ G → ∀ R : It → Hp → Prop, (∀ J F' H', En K H0 F0 F' H' σ G → Ex F F' → Ex H H' → Nw F F' H → WkD K F' J items → R J H') → wi σ H R
instance {K : PySem.W.Frag} {wi : TI} {G : List Sl} {items : List D} : CoeFun (ItD K wi G items) fun _ => ∀ {H0 F0 F H : Hp} {σ : L2.St}, En K H0 F0 F H σ G → ∀ R : It → Hp → Prop, (∀ J F' H', En K H0 F0 F' H' σ G → Ex F F' → Ex H H' → Nw F F' H → WkD K F' J items → R J H') → wi σ H R := ⟨fun h => h.run⟩
theorem wk_same {F : Hp} {J : It} {items : List D} {xs : List V} {Gp : Hp → Prop} {Y : Nat → Hp → V → Hp → Prop} (w : Walk J items.length Gp Y) (hg : ∀ H, Ex F H → Gp H) (r : RpA K F xs items) (hy : ∀ i H x H', Y i H x H' → H' = H ∧ xs[i]? = some x) : WkD K F J items := by
  refine ⟨Gp, Y, w, hg, fun i H x H' F1 e1 e2 y => ?_⟩
  obtain ⟨rfl, hx⟩ := hy i H x H' y
  have hi : i < items.length := by
    rw [← r.length]
    exact (List.getElem?_eq_some_iff.mp hx).1
  obtain ⟨v, h1, h2⟩ := r.get (List.getElem?_eq_getElem hi)
  rw [hx] at h1
  cases h1
  exact ⟨F1, items[i], Ex.refl _, Ex.refl _, e2, Nw.refl _ _, List.getElem?_eq_getElem hi, h2.mono e1⟩
theorem it_list (h : EvD K te G (.lst l)) : ItD K (iList K te) G l := .mk fun {H0 F0 F H σ} En R q => h En _ fun v F1 H1 E1 f1 g1 n1 r1 => by
  cases r1 with
  | lst ha rs =>
    refine ⟨_, rfl, ⟨_, sq_of (E1.ef _ _ ha)⟩, q _ F1 H1 E1 f1 g1 n1 ?_⟩
    refine wk_same (xs := _) (by rw [← rs.length]; exact walk_list) (fun H e => sq_of (e _ _ ha)) rs fun i H x H' y => y
theorem it_scr {ns : List Int} (h : EvD K te G (.scr ns)) : ItD K (iList K te) G (ns.map D.int) := .mk fun {H0 F0 F H σ} En R q => h En _ fun v F1 H1 E1 f1 g1 n1 r1 => by
  cases r1 with
  | scr hs =>
    refine ⟨_, rfl, ⟨_, ex_l E1.ef hs⟩, q _ F1 H1 E1 f1 g1 n1 ?_⟩
    have hl : (ns.map D.int).length = (ns.map V.int).length := by rw [List.length_map, List.length_map]
    exact wk_same (xs := ns.map V.int) (by rw [hl]; exact walk_list) (fun H e => ex_l e hs) (RpA.ofInts ns) fun i H x H' y => y
theorem it_tup (h : EvD K te G (.tup l)) : ItD K (iTup K te) G l := .mk fun {H0 F0 F H σ} En R q => h En _ fun v F1 H1 E1 f1 g1 n1 r1 => by
  cases r1 with
  | tup ha rs =>
    refine ⟨_, rfl, ⟨_, st_of (E1.ef _ _ ha)⟩, q _ F1 H1 E1 f1 g1 n1 ?_⟩
    refine wk_same (xs := _) (by rw [← rs.length]; exact walk_tup) (fun H e => st_of (e _ _ ha)) rs fun i H x H' y => y
theorem wk_fn {F : Hp} {J : It} {n : Nat} {f : Nat → Int} {Y : Nat → Hp → V → Hp → Prop} (w : Walk J n (fun _ => True) Y) (hy : ∀ i H x H', Y i H x H' → i < n ∧ H' = H ∧ x = .int (f i)) : WkD K F J ((List.range n).map fun i => D.int (f i)) := by
  have hl : ((List.range n).map fun i => D.int (f i)).length = n := by rw [List.length_map, List.length_range]
  refine ⟨_, Y, by rw [hl]; exact w, fun _ _ => trivial, fun i H x H' F1 e1 e2 y => ?_⟩
  obtain ⟨hi, rfl, rfl⟩ := hy i H x H' y
  refine ⟨F1, .int (f i), Ex.refl _, Ex.refl _, e2, Nw.refl _ _, ?_, .int _⟩
  rw [List.getElem?_map, List.getElem?_range hi]
  rfl
/-- ints lo, lo + 1, .. -/
def rngD (lo : Int) (n : Nat) : List D := (List.range n).map fun (i : Nat) => D.int (lo + (i : Int))
theorem walk_rng {lo : Int} {n : Nat} {F : Hp} : WkD K F (Itr lo n) (rngD lo n) :=
  wk_fn (f := fun (i : Nat) => lo + (i : Int)) (w := (⟨fun _ _ hi _ => hi, fun _ _ => Nat.le_refl _, fun i H x H' hi _ y => ⟨hi, y.1, y.2⟩⟩ : Walk (Itr lo n) n (fun _ => True) fun i H x H' => i < n ∧ H' = H ∧ x = .int (lo + (i : Int)))) fun i H x H' y => y
theorem it_rng1 {n : Int} (h : EvS K ta G [.int n]) (hn : -(2 ^ 62) ≤ n ∧ n < 2 ^ 62) : ItD K (iRng1 ta) G (rngD 0 n.toNat) := .mk fun {H0 F0 F H σ} En R q => h En _ fun vs F1 H1 E1 f1 g1 n1 r1 => by
  cases r1 with
  | cons a b =>
    cases b
    cases a
    exact ⟨n, rfl, hn.1, hn.2, q _ F1 H1 E1 f1 g1 n1 walk_rng⟩
theorem it_rng2 {lo n : Int} (h : EvS K ta G [.int lo, .int n]) (hn : -(2 ^ 62) ≤ lo ∧ lo < 2 ^ 62 ∧ -(2 ^ 62) ≤ n ∧ n < 2 ^ 62) : ItD K (iRng2 ta) G (rngD lo (n - lo).toNat) := .mk fun {H0 F0 F H σ} En R q => h En _ fun vs F1 H1 E1 f1 g1 n1 r1 => by
  cases r1 with
  | cons a b =>
    cases b with
    | cons b c =>
      cases c
      cases a
      cases b
      exact ⟨lo, n, rfl, hn, q _ F1 H1 E1 f1 g1 n1 walk_rng⟩
/-- the signs of a text -/
def signs (x : Str) : List D := x.cps.toList.map fun c => D.str ⟨#[c]⟩
theorem it_str {x : Str} (h : EvD K te G (.str x)) : ItD K (iStr te) G (signs x) := .mk fun {H0 F0 F H σ} En R q => h En _ fun v F1 H1 E1 f1 g1 n1 r1 => by
  cases r1
  refine ⟨x, rfl, q _ F1 H1 E1 f1 g1 n1 ?_⟩
  have hl : (signs x).length = x.cps.size := by
    unfold signs
    rw [List.length_map]
    rfl
  refine ⟨_, _, by rw [hl]; exact walk_str, fun _ _ => trivial, fun i H x' H' F1 e1 e2 y => ?_⟩
  obtain ⟨rfl, c, hc, rfl⟩ := y
  refine ⟨F1, _, Ex.refl _, Ex.refl _, e2, Nw.refl _ _, ?_, .str _⟩
  unfold signs
  rw [List.getElem?_map, Array.getElem?_toList, hc]
  rfl
/-- pairs of a place and an item -/
def enumD (l : List D) : List D := (List.range l.length).map fun (i : Nat) => D.tup [.int (i : Int), l.getD i .non]
theorem it_enum (h : EvS K ta G [.lst l]) : ItD K (iEnum K ta) G (enumD l) := .mk fun {H0 F0 F H σ} En R q => h En _ fun vs F1 H1 E1 f1 g1 n1 r1 => by
  cases r1 with
  | cons a b =>
    cases b
    cases a with
    | lst ha rs =>
      refine ⟨_, _, rfl, sq_of (E1.ef _ _ ha), q _ F1 H1 E1 f1 g1 n1 ?_⟩
      have hl : (enumD l).length = l.length := by
        unfold enumD
        rw [List.length_map, List.length_range]
      refine ⟨_, _, by rw [hl, ← rs.length]; exact walk_enum, fun H e => sq_of (e _ _ ha), fun i H x' H' F1 e1 e2 y => ?_⟩
      obtain ⟨T, x, y, rfl, hT, rfl, hx, hy⟩ := y
      cases hx
      dsimp only at hy
      have hi : i < l.length := by
        rw [← rs.length]
        exact (List.getElem?_eq_some_iff.mp hy).1
      obtain ⟨v, h1, h2⟩ := rs.get (List.getElem?_eq_getElem hi)
      rw [hy] at h1
      cases h1
      have ef : Ex F1 (upd F1 T (.tup [.int (i : Int), y])) := Ex.new (ex_none e2 hT)
      refine ⟨upd F1 T (.tup [.int (i : Int), y]), .tup [.int (i : Int), l[i]], ef, Ex.new hT, ex_upd_both e2, nw_upd hT (Nw.refl _ _), ?_, .tup upd_same (.cons (.int _) (.cons (h2.mono (e1.trans ef)) .nil))⟩
      unfold enumD
      rw [List.getElem?_map, List.getElem?_range hi]
      show some (D.tup [.int (i : Int), l.getD i .non]) = _
      rw [List.getD_eq_getElem?_getD, List.getElem?_eq_getElem hi]
      rfl
/-- pairs of two lists -/
def zipD (l m : List D) : List D := (List.range (min l.length m.length)).map fun i => D.tup [l.getD i .non, m.getD i .non]
theorem it_zip {m : List D} (h : EvS K ta G [.lst l, .lst m]) : ItD K (iZip K ta) G (zipD l m) := .mk fun {H0 F0 F H σ} En R q => h En _ fun vs F1 H1 E1 f1 g1 n1 r1 => by
  cases r1 with
  | cons a b =>
    cases b with
    | cons b c =>
      cases c
      cases a with
      | lst ha rs =>
        cases b with
        | lst hb rt =>
          refine ⟨_, _, _, _, rfl, sq_of (E1.ef _ _ ha), sq_of (E1.ef _ _ hb), q _ F1 H1 E1 f1 g1 n1 ?_⟩
          have hl : (zipD l m).length = min l.length m.length := by
            unfold zipD
            rw [List.length_map, List.length_range]
          refine ⟨_, _, walk_zip (by rw [hl, rs.length, rt.length]), fun H e => ⟨sq_of (e _ _ ha), sq_of (e _ _ hb)⟩, fun i H x' H' F1 e1 e2 y => ?_⟩
          obtain ⟨T, x, y, rfl, hT, rfl, hx, hy⟩ := y
          dsimp only at hx hy
          have hi : i < l.length := by
            rw [← rs.length]
            exact (List.getElem?_eq_some_iff.mp hx).1
          have hj : i < m.length := by
            rw [← rt.length]
            exact (List.getElem?_eq_some_iff.mp hy).1
          obtain ⟨v, h1, h2⟩ := rs.get (List.getElem?_eq_getElem hi)
          rw [hx] at h1
          cases h1
          obtain ⟨w, h3, h4⟩ := rt.get (List.getElem?_eq_getElem hj)
          rw [hy] at h3
          cases h3
          have ef : Ex F1 (upd F1 T (.tup [x, y])) := Ex.new (ex_none e2 hT)
          refine ⟨upd F1 T (.tup [x, y]), .tup [l[i], m[i]], ef, Ex.new hT, ex_upd_both e2, nw_upd hT (Nw.refl _ _), ?_, .tup upd_same (.cons (h2.mono (e1.trans ef)) (.cons (h4.mono (e1.trans ef)) .nil))⟩
          unfold zipD
          rw [List.getElem?_map, List.getElem?_range (by omega)]
          show some (D.tup [l.getD i .non, m.getD i .non]) = _
          rw [List.getD_eq_getElem?_getD, List.getElem?_eq_getElem hi, List.getD_eq_getElem?_getD, List.getElem?_eq_getElem hj]
          rfl
/-- ints from above: lo + n - 1, .., lo -/
def downD (lo : Int) (n : Nat) : List D := (List.range n).map fun (i : Nat) => D.int (lo + (n : Int) - 1 - (i : Int))
/-- a range as a value -/
structure RgD (K : PySem.W.Frag) (tr : L2.St → Hp → (Int → Int → Hp → Prop) → Prop) (G : List Sl) (a b : Int) : Prop where
  run : ∀ {H0 F0 F H : Hp} {σ : L2.St}, En K H0 F0 F H σ G → ∀ Q : Int → Int → Hp → Prop, (∀ F' H', En K H0 F0 F' H' σ G → Ex F F' → Ex H H' → Nw F F' H → Q a b H') → tr σ H Q
instance {K : PySem.W.Frag} {tr : L2.St → Hp → (Int → Int → Hp → Prop) → Prop} {G : List Sl} {a b : Int} : CoeFun (RgD K tr G a b) fun _ => ∀ {H0 F0 F H : Hp} {σ : L2.St}, En K H0 F0 F H σ G → ∀ Q : Int → Int → Hp → Prop, (∀ F' H', En K H0 F0 F' H' σ G → Ex F F' → Ex H H' → Nw F F' H → Q a b H') → tr σ H Q := ⟨fun h => h.run⟩
theorem it_revR {tr : L2.St → Hp → (Int → Int → Hp → Prop) → Prop} {a b : Int} (h : RgD K tr G a b) (hn : -(2 ^ 62) ≤ a ∧ a < 2 ^ 62 ∧ -(2 ^ 62) ≤ b ∧ b < 2 ^ 62) : ItD K (iRevR tr) G (downD a (b - a).toNat) := .mk fun {H0 F0 F H σ} En R q =>
  h En _ fun F1 H1 E1 f1 g1 n1 => ⟨hn.1, hn.2.1, hn.2.2.1, hn.2.2.2, q _ F1 H1 E1 f1 g1 n1 (by
    refine wk_fn (f := fun (i : Nat) => a + (((b - a).toNat : Nat) : Int) - 1 - (i : Int)) (w := (⟨fun _ _ hi _ => hi, fun _ _ => Nat.le_refl _, fun i H x H' hi _ y => ⟨hi, y.1, ?_⟩⟩ : Walk (Itc (a + (((b - a).toNat : Nat) : Int) - 1) (-1) (b - a).toNat) (b - a).toNat (fun _ => True) fun i H x H' => i < (b - a).toNat ∧ H' = H ∧ x = .int (a + (((b - a).toNat : Nat) : Int) - 1 - (i : Int)))) fun i H x H' y => y
    rw [y.2]
    congr 1
    omega)⟩

/-! what is forgotten -/
inductive Wk : List Sl → List Sl → Prop
  | nil : Wk [] []
  | keep {a : Sl} {l m : List Sl} : Wk l m → Wk (a :: l) (a :: m)
  | drop {a : Sl} {l m : List Sl} : Wk l m → Wk (a :: l) (.no :: m)
theorem Wk.refl : ∀ l : List Sl, Wk l l
  | [] => .nil
  | _ :: l => .keep (Wk.refl l)
theorem Wk.get : ∀ {l m : List Sl} {i : Nat} {x : Sl}, Wk l m → m[i]? = some x → x = .no ∨ l[i]? = some x
  | _, _, i, x, .nil, h => by simp at h
  | _, _, 0, x, .keep _, h => .inr (by simpa using h)
  | _, _, 0, x, .drop _, h => .inl (by simp at h; exact h.symm)
  | _, _, i + 1, x, .keep w, h => by
    have := Wk.get (i := i) (x := x) w (by simpa using h)
    simpa using this
  | _, _, i + 1, x, .drop w, h => by
    have := Wk.get (i := i) (x := x) w (by simpa using h)
    simpa using this
theorem Wk.length : ∀ {l m : List Sl}, Wk l m → l.length = m.length
  | _, _, .nil => rfl
  | _, _, .keep w => by rw [List.length_cons, List.length_cons, Wk.length w]
  | _, _, .drop w => by rw [List.length_cons, List.length_cons, Wk.length w]
theorem En.weak {H0 F0 F H : Hp} {σ : L2.St} {G' : List Sl} (E : Cy.En K H0 F0 F H σ G) (w : Wk G G') : Cy.En K H0 F0 F H σ G' where
  dat := fun i d h => by
    rcases w.get h with z | z
    · cases z
    · exact E.dat i d z
  own := fun i d h => by
    rcases w.get h with z | z
    · cases z
    · exact E.own i d z
  dis := fun i j li lj p hij h1 h2 h3 => by
    rcases w.get h1 with z | z
    · cases z
    · rcases w.get h2 with y | y
      · cases y
      · exact E.dis i j li lj p hij z y h3
  e0 := E.e0
  ef := E.ef
  e1 := E.e1
  nf := E.nf
  len := by rw [E.len, w.length]
theorem st_weak (h : StD K tu G (.nx G1)) (w : Wk G1 G2) : StD K tu G (.nx G2) := .mk fun {H0 F0 F H σ E} En p => h En fun σ F' H' E' f => p σ F' H' (E'.weak w) f
theorem st_from (h : StD K tu G1 o) (w : Wk G G1) : StD K tu G o := .mk fun {H0 F0 F H σ E} En p => h (En.weak w) p

/-! loops -/
def Goes (s : Out) (C : List Sl) : Prop := ∃ C', (s = .nx C' ∨ s = .ct C') ∧ Wk C' C
def Ends' (s o : Out) : Prop := (∃ d, s = .rt d ∧ o = .rt d) ∨ (∃ l, s = .ro l ∧ o = .ro l) ∨ (∃ l m, s = .ro2 l m ∧ o = .ro2 l m) ∨ (∃ C X, s = .ex C X ∧ o = .ex C X) ∨ ∃ C, s = .bk C ∧ o = .nx C
theorem st_for {wi : TI} {items : List D} (hi : ItD K wi G items) (C : Nat → List Sl) (h0 : C 0 = G) (T : Nat → List Sl) (ht : ∀ i d, items[i]? = some d → TgD K g (C i) d (T i)) (S : Nat → Out)
    (hb : ∀ i, i < items.length → (∀ j, j < i → Goes (S j) (C (j + 1))) → StD K tu (T i) (S i)) (hS : ∀ i, i < items.length → Goes (S i) (C (i + 1)) ∨ Ends' (S i) o)
    (hd : (∀ i, i < items.length → Goes (S i) (C (i + 1))) → o = .nx (C items.length)) : StD K (tFor wi g tu) G o := by
  refine ⟨?_⟩
  intro H0 F0 F H σ E En p
  refine hi En _ fun J F1 H1 E1 f1 g1 n1 wk => ?_
  obtain ⟨Gp, Y, w, hg, hy⟩ := wk.ex
  refine for_it w (fun i σ H => ∃ F', Cy.En K H0 F0 F' H σ (C i) ∧ Ex F1 F' ∧ ∀ j, j < i → Goes (S j) (C (j + 1))) ⟨F1, by rw [h0]; exact E1, Ex.refl _, fun j hj => absurd hj (Nat.not_lt_zero _)⟩
    (fun i σ H _ ⟨F', E', e', _⟩ => hg H (e'.trans E'.ef)) ?_ ?_
  · rintro i x σ2 H2 H3 hlt ⟨F', E', e', hp⟩ y
    obtain ⟨F2, d, k1, k2, k3, k4, hd2, r2⟩ := hy i H2 x H3 F' e' E'.ef y
    have E3 : Cy.En K H0 F0 F2 H3 σ2 (C i) := E'.grow k1 k2 k3 k4
    refine ht i d hd2 E3 r2 _ fun σ4 E4 => ?_
    refine hb i hlt hp E4 ?_
    rcases hS i hlt with hs | hs
    · have hnext : ∀ (σ : L2.St) (F'' H'' : Hp), Cy.En K H0 F0 F'' H'' σ (C (i + 1)) → Ex F2 F'' → ∃ F', Cy.En K H0 F0 F' H'' σ (C (i + 1)) ∧ Ex F1 F' ∧ ∀ j, j < i + 1 → Goes (S j) (C (j + 1)) := fun σ F'' H'' E'' f'' =>
        ⟨F'', E'', (e'.trans k1).trans f'', fun j hj => by
          by_cases hji : j < i
          · exact hp j hji
          · have ej : j = i := by omega
            rw [ej]
            exact hs⟩
      obtain ⟨C', hs | hs, hw⟩ := hs
      · rw [hs]
        exact fun σ F'' H'' E'' f'' => hnext σ F'' H'' (E''.weak hw) f''
      · rw [hs]
        exact fun σ F'' H'' E'' f'' => hnext σ F'' H'' (E''.weak hw) f''
    · rcases hs with ⟨d', hs, ho⟩ | ⟨l', hs, ho⟩ | ⟨l', m', hs, ho⟩ | ⟨C', X', hs, ho⟩ | ⟨C', hs, ho⟩
      · rw [hs]
        rw [ho] at p
        exact p
      · rw [hs]
        rw [ho] at p
        exact p
      · rw [hs]
        rw [ho] at p
        exact p
      · rw [hs]
        rw [ho] at p
        exact p
      · rw [hs]
        rw [ho] at p
        exact fun σ F'' H'' E'' f'' => p σ F'' H'' E'' ((((f1.trans e').trans k1).trans f''))
  · rintro σ2 H2 ⟨F', E', e', hp⟩
    have ho := hd hp
    rw [ho] at p
    exact p σ2 F' H2 E' (f1.trans e')

/-! comprehensions -/
def wipeG (G : List Sl) : List Nat → List Sl
  | [] => G
  | v :: vs => (wipeG G vs).set v .no
theorem En.setN {H0 F0 F H : Hp} {σ : L2.St} (E : Cy.En K H0 F0 F H σ G) (i : Nat) : Cy.En K H0 F0 F H (σ.set i none) (G.set i .no) where
  dat := fun j e h => by
    by_cases q : i = j
    · subst q
      by_cases hl : i < G.length
      · rw [List.getElem?_set_self hl] at h
        cases h
      · rw [List.getElem?_eq_none (by rw [List.length_set]; omega)] at h
        cases h
    · rw [List.getElem?_set_ne q] at h ⊢
      exact E.dat j e h
  own := fun j l' h => by
    by_cases q : i = j
    · subst q
      by_cases hl : i < G.length
      · rw [List.getElem?_set_self hl] at h
        cases h
      · rw [List.getElem?_eq_none (by rw [List.length_set]; omega)] at h
        cases h
    · rw [List.getElem?_set_ne q] at h ⊢
      exact E.own j l' h
  dis := fun a b la lb p hab h1 h2 h3 => by
    have na : i ≠ a := fun q => by
      subst q
      by_cases hl : i < G.length
      · rw [List.getElem?_set_self hl] at h1
        cases h1
      · rw [List.getElem?_eq_none (by rw [List.length_set]; omega)] at h1
        cases h1
    have nb : i ≠ b := fun q => by
      subst q
      by_cases hl : i < G.length
      · rw [List.getElem?_set_self hl] at h2
        cases h2
      · rw [List.getElem?_eq_none (by rw [List.length_set]; omega)] at h2
        cases h2
    rw [List.getElem?_set_ne na] at h1 h3
    rw [List.getElem?_set_ne nb] at h2 ⊢
    exact E.dis a b la lb p hab h1 h2 h3
  e0 := E.e0
  ef := E.ef
  e1 := E.e1
  nf := E.nf
  len := by rw [List.length_set, List.length_set, E.len]
theorem En.wipe {H0 F0 F H : Hp} {σ : L2.St} (E : Cy.En K H0 F0 F H σ G) : ∀ vs : List Nat, Cy.En K H0 F0 F H (L2.wipe σ vs) (wipeG G vs)
  | [] => E
  | v :: vs => (En.wipe E vs).setN v
/-- a target stores into these slots alone -/
def Keeps (g : TG) (vs : List Nat) : Prop := ∀ (x : V) (σ : L2.St) (H : Hp) (Q : L2.St → Hp → Prop), g x (L2.wipe σ vs) H Q → g x (L2.wipe σ vs) H fun σ2 H2 => L2.wipe σ2 vs = L2.wipe σ vs ∧ Q σ2 H2
theorem keeps1 {j : Nat} : Keeps (gName j) [j] := fun x σ H Q h => ⟨by show ((σ.set j none).set j (some x)).set j none = σ.set j none; rw [List.set_set, List.set_set], h⟩
theorem keeps2 {n i j : Nat} (hij : i ≠ j) : Keeps (gTup K n (gCons (gName i) (gCons (gName j) gNil))) [i, j] := fun x σ H Q h => by
  obtain ⟨a, xs, rfl, hs, hl, v, r, rfl, w, r', rfl, hr, q⟩ := h
  refine ⟨a, _, rfl, hs, hl, v, _, rfl, w, _, rfl, hr, ?_, q⟩
  show (((((σ.set j none).set i none).set i (some v)).set j (some w)).set j none).set i none = (σ.set j none).set i none
  rw [List.set_set, List.set_set, List.set_comm _ _ hij.symm, List.set_set, List.set_comm _ _ hij, List.set_set]
/-- which turns give, and what -/
def lcD (n : Nat) (f : Nat → Bool) (v : Nat → D) : List D := ((List.range n).filter f).map v
theorem lcD_yes {n : Nat} {f : Nat → Bool} {v : Nat → D} (h : f n = true) : lcD (n + 1) f v = lcD n f v ++ [v n] := by
  unfold lcD
  rw [List.range_succ, List.filter_append, List.map_append, List.filter_cons, if_pos h] <;> rfl
theorem lcD_no {n : Nat} {f : Nat → Bool} {v : Nat → D} (h : f n = false) : lcD (n + 1) f v = lcD n f v := by
  unfold lcD
  rw [List.range_succ, List.filter_append, List.map_append, List.filter_cons, if_neg (by rw [h]; decide)]
  show _ ++ [] = _
  rw [List.append_nil]
theorem lcD_len (n : Nat) (f : Nat → Bool) (v : Nat → D) : (lcD n f v).length ≤ n := by
  unfold lcD
  rw [List.length_map]
  have h := List.length_filter_le f (List.range n)
  rw [List.length_range] at h
  exact h
theorem o_lc {wi : TI} {items : List D} {vs : List Nat} (f : Nat → Bool) (v : Nat → D) (T : Nat → List Sl) (hk : Keeps g vs) (hi : ItD K wi G items) (hz : items.length ≤ 40000)
    (ht : ∀ i d, items[i]? = some d → TgD K g (wipeG G vs) d (T i)) (hf : ∀ i, i < items.length → EvTt K tt (T i) (f i)) (hv : ∀ i, i < items.length → f i = true → EvD K te (T i) (v i)) :
    EvO K (tLc wi g tt te vs) G (lcD items.length f v) := by
  refine ⟨?_⟩
  intro H0 F0 F H σ E Q q
  refine hi E _ fun J F1 H1 E1 f1 g1 n1 wk => ?_
  obtain ⟨Gp, Y, w, hg, hy⟩ := wk.ex
  intro Dl hD
  refine lc_it w (fun i H' => ∃ F' acc, Cy.En K H0 F0 F' H' σ G ∧ Ex F1 F' ∧ Ex H1 H' ∧ Nw F1 F' H1 ∧ F' Dl = none ∧ H' Dl = some (.lst acc) ∧ RpA K F' acc (lcD i f v)) ?_ (fun i H' _ ⟨F', acc, E', e', _⟩ => hg H' (e'.trans E'.ef)) ?_ ?_
  · exact ⟨F1, [], E1.grow (Ex.refl _) (Ex.new hD) (E1.ef.trans (Ex.new hD)) (Nw.refl _ _), Ex.refl _, Ex.new hD, Nw.refl _ _, ex_none E1.ef hD, upd_same, .nil⟩
  · rintro i x H2 H3 hlt ⟨F', acc, E', e', gg, nn, hF, hH, hr⟩ y
    obtain ⟨F2, d, k1, k2, k3, k4, hd2, r2⟩ := hy i H2 x H3 F' e' E'.ef y
    have E3 : Cy.En K H0 F0 F2 H3 σ G := E'.grow k1 k2 k3 k4
    refine hk x σ H3 _ ?_
    refine ht i d hd2 (E3.wipe vs) r2 _ fun σ4 E4 => ?_
    have nD : Dl ≠ Dl ∨ True := .inr trivial
    have hH3 : H3 Dl = some (.lst acc) := k2 _ _ hH
    have hF2 : F2 Dl = none := by
      cases z : F2 Dl with
      | none => rfl
      | some o =>
        rcases k4 Dl o z with y | y
        · rw [hF] at y
          cases y
        · rw [hH] at y
          cases y
    have n2 : Nw F1 F2 H1 := nn.trans k4 gg
    refine hf i hlt E4 _ fun F5 H5 E5 f5 g5 n5 => ?_
    have hF5 : F5 Dl = none := by
      cases z : F5 Dl with
      | none => rfl
      | some o =>
        rcases n5 Dl o z with y | y
        · rw [hF2] at y
          cases y
        · rw [hH3] at y
          cases y
    have E5' : Cy.En K H0 F0 F5 H5 σ G := E3.grow f5 g5 E5.ef n5
    have n5' : Nw F1 F5 H1 := n2.trans n5 (gg.trans k2)
    cases hfi : f i with
    | true =>
      show te σ4 H5 _
      refine hv i hlt hfi E5 _ fun v6 F6 H6 E6 f6 g6 n6 r6 => ?_
      have hH6 : H6 Dl = some (.lst acc) := g6 _ _ (g5 _ _ hH3)
      have hF6 : F6 Dl = none := by
        cases z : F6 Dl with
        | none => rfl
        | some o =>
          rcases n6 Dl o z with y | y
          · rw [hF5] at y
            cases y
          · rw [g5 _ _ hH3] at y
            cases y
      have hlen : acc.length ≤ i := by
        rw [hr.length]
        exact lcD_len i f v
      have n6' : Nw F1 F6 H1 := n5'.trans n6 ((gg.trans k2).trans g5)
      refine ⟨acc, hH6, sz_lt (by omega), F6, acc ++ [v6], ?_, ((e'.trans k1).trans f5).trans f6, ?_, n6', hF6, upd_same, ?_⟩
      · have E6' : Cy.En K H0 F0 F6 H6 σ G := E5'.grow f6 g6 E6.ef n6
        refine ⟨E6'.dat, fun j l h => ?_, E6'.dis, fun a o h => ?_, fun a o h => ?_, E6'.e1, E6'.nf, E6'.len⟩
        · obtain ⟨p, xs, a1, b1, c1, d1, r1⟩ := E1.own j l h
          obtain ⟨p2, xs2, a2, b2, c2, d2, r2⟩ := E6'.own j l h
          rw [a1] at a2
          cases a2
          have hne : p ≠ Dl := ne_of_none d1 hD
          exact ⟨p, xs2, a1, b2, c2, by rw [upd_ne hne]; exact d2, r2⟩
        · have hne : a ≠ Dl := fun z => by
            subst z
            rw [ex_none E1.e0 hD] at h
            cases h
          rw [upd_ne hne]
          exact E6'.e0 a o h
        · have hne : a ≠ Dl := fun z => by
            subst z
            rw [hF6] at h
            cases h
          rw [upd_ne hne]
          exact E6'.ef a o h
      · exact Ex.mut (((gg.trans k2).trans g5).trans g6) hD
      · rw [lcD_yes hfi]
        exact (hr.mono ((k1.trans f5).trans f6)).app (.cons r6 .nil)
    | false =>
      refine ⟨F5, acc, E5', (e'.trans k1).trans f5, (gg.trans k2).trans g5, n5', hF5, g5 _ _ hH3, ?_⟩
      rw [lcD_no hfi]
      exact hr.mono (k1.trans f5)
  · rintro H2 ⟨F', acc, E', e', gg, nn, hF, hH, hr⟩
    exact q Dl acc F' H2 E' (f1.trans e') (g1.trans gg) (n1.trans nn g1) (ex_none g1 hD) hF hH hr
end
end Cy
namespace Cy
open PySem L2 Evl
theorem spD_len {K : PySem.W.Frag} {R : List D → D → Prop} {vs : List V} {H : Hp} {Q : VK} {E : XK} {n : Nat} (hR : ∀ ds d, R ds d → ds.length = n) (h : spD K R vs H Q E) : vs.length = n := by
  obtain ⟨F, ds, d, e, r, h1, _⟩ := h
  rw [r.length]
  exact hR ds d h1
theorem spO_len {K : PySem.W.Frag} {R : List D → List D → Prop} {vs : List V} {H : Hp} {Q : VK} {E : XK} {n : Nat} (hR : ∀ ds d, R ds d → ds.length = n) (h : spO K R vs H Q E) : vs.length = n := by
  obtain ⟨F, ds, d, e, r, h1, _⟩ := h
  rw [r.length]
  exact hR ds d h1
/-- the law's end -/
theorem law_endD {K : PySem.W.Frag} {R : List D → D → Prop} {H : Hp} {a : Addr} {ns : List Int} (hS : SqL K H a (ns.map V.int)) (hR : R [.scr ns] (.bl true)) : spD K R [.ref a] H (fun v _ => v = .bl true) fun _ _ _ => False :=
  ⟨H, [.scr ns], .bl true, Ex.refl H, .cons (.scr hS) .nil, hR, fun v F' H' ro r => by
    cases r
    rfl⟩
end Cy

set_option Elab.async false
set_option linter.all false
set_option maxRecDepth 100000
set_option maxHeartbeats 2000000
namespace Cy
open PySem L2 Evl

/-! operators, whatever they are of -/
def orR (r r' : R2) : R2 := fun x y H Q => r x y H Q ∨ r' x y H Q
def orC (r r' : List V → Hp → VK → Prop) : List V → Hp → VK → Prop := fun xs H Q => r xs H Q ∨ r' xs H Q
def rAddS : R2 := fun x y H Q => ∃ i j, x = .str i ∧ y = .str j ∧ i.length + j.length ≤ sizeLine ∧ Q (.str (i ++ j)) H
def rLtS : R2 := fun x y H Q => ∃ i j, x = .str i ∧ y = .str j ∧ Q (.bl (decide (i.cps.toList < j.cps.toList))) H
def rLeS : R2 := fun x y H Q => ∃ i j, x = .str i ∧ y = .str j ∧ Q (.bl (!decide (j.cps.toList < i.cps.toList))) H
def rInC : R2 := fun x y H Q => ∃ (c : Nat) (z : Str), x = .str ⟨#[c]⟩ ∧ y = .str z ∧ Q (.bl (decide (c ∈ z.cps.toList))) H
def rNiC : R2 := fun x y H Q => ∃ (c : Nat) (z : Str), x = .str ⟨#[c]⟩ ∧ y = .str z ∧ Q (.bl (!decide (c ∈ z.cps.toList))) H
def rIsNn : R2 := fun x y H Q => y = .non ∧ Q (.bl (decide (x = .non))) H
def rNiNn : R2 := fun x y H Q => y = .non ∧ Q (.bl (!decide (x = .non))) H
def gAdd (K : PySem.W.Frag) : R2 := orR (rI0 fun i j => .int (i + j)) (orR rAddS rCat)
def gSub : R2 := rI0 fun i j => .int (i - j)
def gMul : R2 := orR (rI CMul fun i j => .int (i * j)) rRep
def gFdv : R2 := rI CDivW fun i j => .int (i / j)
def gMod : R2 := rI (fun _ j => 0 < j) fun i j => .int (i % j)
def gPow : R2 := rI CPow fun i j => .int (i ^ j.toNat)
def gLt : R2 := orR (rI0 fun i j => .bl (decide (i < j))) rLtS
def gLe : R2 := orR (rI0 fun i j => .bl (decide (i ≤ j))) rLeS
def gGt : R2 := rI0 fun i j => .bl (decide (j < i))
def gGe : R2 := rI0 fun i j => .bl (decide (j ≤ i))
def gEq (K : PySem.W.Frag) : R2 := orR rEq (rEqD K)
/-- two lists of unlike lengths -/
def rNeLen (K : PySem.W.Frag) : R2 := fun x y H Q => ∃ a b xs ys, x = .ref a ∧ y = .ref b ∧ SqL K H a xs ∧ SqL K H b ys ∧ xs.length ≠ ys.length ∧ Q (.bl true) H
def gNe (K : PySem.W.Frag) : R2 := orR rNe (orR (rNeD K) (rNeLen K))
def gIn (K : PySem.W.Frag) : R2 := orR rInC (rIn K false)
def gNi (K : PySem.W.Frag) : R2 := orR rNiC (rIn K true)
def gIs : R2 := orR rIsNn rIsB
def gIn2 : R2 := orR rNiNn rNotB
def gIx (K : PySem.W.Frag) : R2 := rIx K
section
variable {X : Cx}
theorem op_gAdd : OpR X (binaryOp .Add) (gAdd X.K) := op_add.or (op_add_str.or op_cat)
theorem op_gSub : OpR X (binaryOp .Sub) gSub := op_sub
theorem op_gMul : OpR X (binaryOp .Mult) gMul := op_mul.or op_rep
theorem op_gFdv : OpR X (binaryOp .FloorDiv) gFdv := op_fdivW
theorem op_gMod : OpR X (binaryOp .Mod) gMod := op_mod
theorem op_gPow : OpR X (binaryOp .Pow) gPow := op_pow
theorem op_gLt : OpR X (compareOp .Lt) gLt := op_lt.or op_lt_str
theorem op_gLe : OpR X (compareOp .LtE) gLe := op_le.or op_le_str
theorem op_gGt : OpR X (compareOp .Gt) gGt := op_gt
theorem op_gGe : OpR X (compareOp .GtE) gGe := op_ge
theorem op_gEq (hu : X.A.units + 64 < cLine) : OpR X (compareOp .Eq) (gEq X.K) := op_eq.or (op_eqD hu)
theorem op_neLen (hu : X.A.units + 64 < cLine) : OpR X (compareOp .NotEq) (rNeLen X.K) := by
  intro pins s σ H x y v u Q I rx ry h
  obtain ⟨a, b, xs, ys, rfl, rfl, h1, h2, hne, q⟩ := h
  cases (show v = Value.ref a from rx)
  cases (show u = Value.ref b from ry)
  obtain ⟨us, r1, p1, _⟩ := I.list h1
  obtain ⟨ws, r2, p2, _⟩ := I.list h2
  have hsz : us.toArray.size ≠ ws.toArray.size := by
    rw [List.size_toArray, List.size_toArray, ← r1.length, ← r2.length]
    exact hne
  exact SeqAt.RcNeAt.lists_lengths p1.isList p2.isList (by simpa using hsz) (by omega) X.prog X.w _ _ ⟨.bl true, H, I, rfl, q⟩
theorem op_gNe (hu : X.A.units + 64 < cLine) : OpR X (compareOp .NotEq) (gNe X.K) := op_ne.or ((op_neD hu).or (op_neLen hu))
theorem op_gIn : OpR X (compareOp .In) (gIn X.K) := op_in_sign.or op_in_seq
theorem op_gNi : OpR X (compareOp .NotIn) (gNi X.K) := op_notIn_sign.or op_notIn_seq
theorem op_gIs : OpR X (compareOp .Is) gIs := op_isN.or op_isBl
theorem op_gIsn : OpR X (compareOp .IsNot) gIn2 := op_notN.or op_notBl
def rMax2 : List V → Hp → VK → Prop := fun xs H Q => ∃ i j, xs = [.int i, .int j] ∧ Q (.int (if j > i then j else i)) H
def rMin2 : List V → Hp → VK → Prop := fun xs H Q => ∃ i j, xs = [.int i, .int j] ∧ Q (.int (if j < i then j else i)) H
def rAbs : List V → Hp → VK → Prop := fun xs H Q => ∃ i, xs = [.int i] ∧ Q (.int (if i < 0 then -i else i)) H
def rLen (K : PySem.W.Frag) : List V → Hp → VK → Prop := fun xs H Q => ∃ x n, xs = [x] ∧ LenV K x H n ∧ Q (.int n) H
def rInt1 : List V → Hp → VK → Prop := fun xs H Q => (∃ i, xs = [.int i] ∧ Q (.int i) H) ∨ ∃ k, xs = [.bl k] ∧ Q (.int (if k then 1 else 0)) H
def rIntS : List V → Hp → VK → Prop := fun xs H Q => ∃ a n, xs = [.str a] ∧ PySem.intText? a = some n ∧ a.length ≤ 640 ∧ Q (.int n) H
def rStrI : List V → Hp → VK → Prop := fun xs H Q => ∃ i, xs = [.int i] ∧ i.natAbs.log2 < 1920 ∧ Q (.str (toString i)) H
def rStrS : List V → Hp → VK → Prop := fun xs H Q => ∃ a, xs = [.str a] ∧ Q (.str a) H
def rListOf (K : PySem.W.Frag) : List V → Hp → VK → Prop := fun xs H Q => ∃ p ys, xs = [.ref p] ∧ (SqL K H p ys ∨ SqT K H p ys) ∧ ∀ l, H l = none → Q (.ref l) (upd H l (.lst ys))
def rReprI : List V → Hp → VK → Prop := fun xs H Q => ∃ i, xs = [.int i] ∧ i.natAbs.log2 < 1920 ∧ Q (.str (toString i)) H
def rReprB : List V → Hp → VK → Prop := fun xs H Q => ∃ b : Bool, xs = [.bl b] ∧ Q (.str (if b then "True" else "False")) H
def rReprS : List V → Hp → VK → Prop := fun xs H Q => ∃ a, xs = [.str a] ∧ (reprText a).length ≤ sizeLine ∧ Q (.str (reprText a)) H
def rReprN : List V → Hp → VK → Prop := fun xs H Q => xs = [.non] ∧ Q (.str "None") H
def gMax (K : PySem.W.Frag) := orC rMax2 (rMax K)
def gMin (K : PySem.W.Frag) := orC rMin2 (rMin K)
def gInt := orC rInt1 rIntS
def gStr := orC rStrI rStrS
def gRepr := orC rReprI (orC rReprB (orC rReprN rReprS))
theorem call_gMax (hc : X.calm = true) : CallR X (.builtin "max") (gMax X.K) := (call_max2 hc).or (cr_max hc)
theorem call_gMin (hc : X.calm = true) : CallR X (.builtin "min") (gMin X.K) := (call_min2 hc).or (cr_min hc)
theorem call_gAbs : CallR X (.builtin "abs") rAbs := call_abs
theorem call_gLen : CallR X (.builtin "len") (rLen X.K) := call_len
theorem call_gInt : CallR X (.type "int") gInt := call_int1.or call_int_str
theorem call_gStr : CallR X (.type "str") gStr := call_str_int.or SkE.call_str_str
theorem call_gList : CallR X (.type "list") (rListOf X.K) := call_list_of
theorem call_reprB : CallR X (.builtin "repr") rReprB := by
  intro pins s σ H xs us Q I r h
  obtain ⟨i, rfl, q⟩ := h
  obtain ⟨u, rfl, rfl⟩ := vals1 r
  exact PySem.P.repr_of_bool ⟨.str _, H, I.tok _, ⟨_, rfl⟩, q⟩
theorem call_reprN : CallR X (.builtin "repr") rReprN := by
  intro pins s σ H xs us Q I r h
  obtain ⟨rfl, q⟩ := h
  obtain ⟨u, rfl, rfl⟩ := vals1 r
  exact PySem.P.repr_of_none ⟨.str _, H, I.tok _, ⟨_, rfl⟩, q⟩
theorem call_reprS : CallR X (.builtin "repr") rReprS := by
  intro pins s σ H xs us Q I r h
  obtain ⟨i, rfl, hz, q⟩ := h
  obtain ⟨u, rfl, t, rfl⟩ := vals1 r
  exact PySem.P.repr_of_str ⟨.str _, H, I.tok _, ⟨_, rfl⟩, q⟩ hz
theorem call_gRepr : CallR X (.builtin "repr") gRepr := SkE.call_repr_int.or (call_reprB.or (call_reprN.or call_reprS))
end
def gSl (K : PySem.W.Frag) : V → Option Int → Option Int → Hp → VK → Prop := fun x lo hi H Q => rSlL K x lo hi H Q ∨ rSlS x lo hi H Q
theorem sl_gSl {X : Cx} : SlR X (gSl X.K) := sl_list.or sl_str

/-! what they give of data -/
def kindD : D → String
  | .non => "NoneType"
  | .bl _ => "bool"
  | .int _ => "int"
  | .str _ => "str"
  | .lst _ => "list"
  | .tup _ => "tuple"
  | .dic _ => "dict"
  | .obj _ _ => "object"
  | .scr _ => "list"
  | .exc _ => "object"
  | .ptr _ => "object"
def noObj : D → Bool
  | .obj _ _ => false
  | .exc _ => false
  | .ptr _ => false
  | _ => true
section
variable {K : PySem.W.Frag} {G : List Sl} {ta tb te : TE} {d : D} {l m : List D}
theorem op2_v {r : R2} {a b c : D} (h : ∀ {F H : Hp} {x y : V}, Ex F H → Rp K F x a → Rp K F y b → ∃ z, Rp K F z c ∧ ∀ Q : VK, Q z H → r x y H Q) : Op2 K r a b c := .mk fun {F H x y} e r1 r2 Q q => by
  obtain ⟨z, h1, h2⟩ := h e r1 r2
  exact h2 Q (q z F H (Ex.refl F) e (Ex.refl H) (Nw.refl F H) h1)
theorem op1_v {r : List V → Hp → VK → Prop} {ds : List D} {c : D} (h : ∀ {F H : Hp} {vs : List V}, Ex F H → RpA K F vs ds → ∃ z, Rp K F z c ∧ ∀ Q : VK, Q z H → r vs H Q) : OpN K r ds c := .mk fun {F H vs} e r1 Q q => by
  obtain ⟨z, h1, h2⟩ := h e r1
  exact h2 Q (q z F H (Ex.refl F) e (Ex.refl H) (Nw.refl F H) h1)
theorem rp_int {F : Hp} {v : V} {i : Int} (h : Rp K F v (.int i)) : v = .int i := by
  cases h
  rfl
theorem rp_str {F : Hp} {v : V} {i : Str} (h : Rp K F v (.str i)) : v = .str i := by
  cases h
  rfl
theorem rp_bl {F : Hp} {v : V} {i : Bool} (h : Rp K F v (.bl i)) : v = .bl i := by
  cases h
  rfl
theorem rp_non {F : Hp} {v : V} (h : Rp K F v .non) : v = .non := by
  cases h
  rfl
theorem rpa1 {F : Hp} {vs : List V} {a : D} (h : RpA K F vs [a]) : ∃ v, vs = [v] ∧ Rp K F v a := by
  cases h with
  | cons r t =>
    cases t
    exact ⟨_, rfl, r⟩
theorem rpa2 {F : Hp} {vs : List V} {a b : D} (h : RpA K F vs [a, b]) : ∃ v w, vs = [v, w] ∧ Rp K F v a ∧ Rp K F w b := by
  cases h with
  | cons r t =>
    cases t with
    | cons r2 t =>
      cases t
      exact ⟨_, _, rfl, r, r2⟩
theorem d_ii {g : Int → Int → V} {c : Int → Int → D} (hg : ∀ F i j, Rp K F (g i j) (c i j)) (i j : Int) : Op2 K (rI0 g) (.int i) (.int j) (c i j) := op2_v fun {F H x y} e r1 r2 => ⟨g i j, hg F i j, fun Q q => ⟨i, j, rp_int r1, rp_int r2, q⟩⟩
theorem d_iiC {C : Int → Int → Prop} {g : Int → Int → V} {c : Int → Int → D} (hg : ∀ F i j, Rp K F (g i j) (c i j)) {i j : Int} (hc : C i j) : Op2 K (rI C g) (.int i) (.int j) (c i j) := op2_v fun {F H x y} e r1 r2 => ⟨g i j, hg F i j, fun Q q => ⟨i, j, rp_int r1, rp_int r2, hc, q⟩⟩
theorem op2_l {r r' : R2} {a b c : D} (h : Op2 K r a b c) : Op2 K (orR r r') a b c := .mk fun {F H x y} e r1 r2 Q q => Or.inl (h e r1 r2 Q q)
theorem op2_r {r r' : R2} {a b c : D} (h : Op2 K r' a b c) : Op2 K (orR r r') a b c := .mk fun {F H x y} e r1 r2 Q q => Or.inr (h e r1 r2 Q q)
theorem opn_l {r r' : List V → Hp → VK → Prop} {ds : List D} {c : D} (h : OpN K r ds c) : OpN K (orC r r') ds c := .mk fun {F H vs} e r1 Q q => Or.inl (h e r1 Q q)
theorem opn_r {r r' : List V → Hp → VK → Prop} {ds : List D} {c : D} (h : OpN K r' ds c) : OpN K (orC r r') ds c := .mk fun {F H vs} e r1 Q q => Or.inr (h e r1 Q q)
theorem d_addI {i j : Int} : Op2 K (gAdd K) (.int i) (.int j) (.int (i + j)) := op2_l (d_ii (c := fun i j => .int (i + j)) (fun _ _ _ => .int _) i j)
theorem d_subI {i j : Int} : Op2 K gSub (.int i) (.int j) (.int (i - j)) := d_ii (c := fun i j => .int (i - j)) (fun _ _ _ => .int _) i j
theorem d_mulI {i j : Int} (h : CMul i j) : Op2 K gMul (.int i) (.int j) (.int (i * j)) := op2_l (d_iiC (c := fun i j => .int (i * j)) (fun _ _ _ => .int _) h)
theorem d_fdv {i j : Int} (h : 0 < j) (h2 : j < 115792089237316195423570985008687907853269984665640564039457584007913129639936) : Op2 K gFdv (.int i) (.int j) (.int (i / j)) := d_iiC (c := fun i j => .int (i / j)) (fun _ _ _ => .int _) (wide_div (b := 256) h (by omega) (by decide) (by decide))
theorem d_mod {i j : Int} (h : 0 < j) : Op2 K gMod (.int i) (.int j) (.int (i % j)) := d_iiC (C := fun _ j => 0 < j) (c := fun i j => .int (i % j)) (fun _ _ _ => .int _) (i := i) (j := j) h
theorem d_pow {i j : Int} (h : CPow i j) : Op2 K gPow (.int i) (.int j) (.int (i ^ j.toNat)) := d_iiC (c := fun i j => .int (i ^ j.toNat)) (fun _ _ _ => .int _) h
theorem d_pow9 : Op2 K gPow (.int 10) (.int 9) (.int 1000000000) := by
  have h := d_pow (K := K) (i := 10) (j := 9) ⟨by decide, by decide, by decide⟩
  exact h
theorem d_pow12 : Op2 K gPow (.int 10) (.int 12) (.int 1000000000000) := by
  have h := d_pow (K := K) (i := 10) (j := 12) ⟨by decide, by decide, by decide⟩
  exact h
theorem d_pow6 : Op2 K gPow (.int 10) (.int 6) (.int 1000000) := by
  have h := d_pow (K := K) (i := 10) (j := 6) ⟨by decide, by decide, by decide⟩
  exact h
theorem d_ltI {i j : Int} : Op2 K gLt (.int i) (.int j) (.bl (decide (i < j))) := op2_l (d_ii (c := fun i j => .bl (decide (i < j))) (fun _ _ _ => .bl _) i j)
theorem d_leI {i j : Int} : Op2 K gLe (.int i) (.int j) (.bl (decide (i ≤ j))) := op2_l (d_ii (c := fun i j => .bl (decide (i ≤ j))) (fun _ _ _ => .bl _) i j)
theorem d_gtI {i j : Int} : Op2 K gGt (.int i) (.int j) (.bl (decide (j < i))) := d_ii (c := fun i j => .bl (decide (j < i))) (fun _ _ _ => .bl _) i j
theorem d_geI {i j : Int} : Op2 K gGe (.int i) (.int j) (.bl (decide (j ≤ i))) := d_ii (c := fun i j => .bl (decide (j ≤ i))) (fun _ _ _ => .bl _) i j
theorem d_addS {i j : Str} (h : i.length + j.length ≤ 100000) : Op2 K (gAdd K) (.str i) (.str j) (.str (i ++ j)) := op2_r (op2_l (op2_v fun {F H x y} e r1 r2 => ⟨.str (i ++ j), .str _, fun Q q => ⟨i, j, rp_str r1, rp_str r2, sz_of h, q⟩⟩))
theorem d_leS {i j : Str} : Op2 K gLe (.str i) (.str j) (.bl (!decide (j.cps.toList < i.cps.toList))) := op2_r (op2_v fun {F H x y} e r1 r2 => ⟨.bl _, .bl _, fun Q q => ⟨i, j, rp_str r1, rp_str r2, q⟩⟩)
theorem d_ltS {i j : Str} : Op2 K gLt (.str i) (.str j) (.bl (decide (i.cps.toList < j.cps.toList))) := op2_r (op2_v fun {F H x y} e r1 r2 => ⟨.bl _, .bl _, fun Q q => ⟨i, j, rp_str r1, rp_str r2, q⟩⟩)
theorem d_inC {c : Nat} {z : Str} : Op2 K (gIn K) (.str ⟨#[c]⟩) (.str z) (.bl (decide (c ∈ z.cps.toList))) := op2_l (op2_v fun {F H x y} e r1 r2 => ⟨.bl _, .bl _, fun Q q => ⟨c, z, rp_str r1, rp_str r2, q⟩⟩)
theorem d_niC {c : Nat} {z : Str} : Op2 K (gNi K) (.str ⟨#[c]⟩) (.str z) (.bl (!decide (c ∈ z.cps.toList))) := op2_l (op2_v fun {F H x y} e r1 r2 => ⟨.bl _, .bl _, fun Q q => ⟨c, z, rp_str r1, rp_str r2, q⟩⟩)
theorem d_catL {a b : List D} (h : a.length + b.length ≤ 100000) : Op2O K (gAdd K) (.lst a) (.lst b) (a ++ b) := .mk fun {F H x y} e r1 r2 Q q => by
  cases r1 with
  | lst h1 s1 =>
    cases r2 with
    | lst h2 s2 => exact Or.inr (Or.inr ⟨_, _, _, _, rfl, rfl, e _ _ h1, e _ _ h2, sz_of (by rw [s1.length, s2.length]; exact h), fun p hp => q p _ _ (Ex.new hp) hp upd_same (s1.app s2)⟩)
/-! equality -/
mutual
def toP : D → PyData
  | .non => .none
  | .bl b => .bool b
  | .int i => .int i
  | .str s => .str s
  | .lst xs => .list (toPs xs)
  | .tup xs => .tuple (toPs xs)
  | .dic _ => .none
  | .obj _ _ => .none
  | .scr ns => .list (ns.map PyData.int)
  | .exc _ => .none
  | .ptr _ => .none
def toPs : List D → List PyData
  | [] => []
  | x :: xs => toP x :: toPs xs
end
mutual
def plain : D → Bool
  | .lst xs => plains xs
  | .tup xs => plains xs
  | .dic _ => false
  | .obj _ _ => false
  | .exc _ => false
  | .ptr _ => false
  | _ => true
def plains : List D → Bool
  | [] => true
  | x :: xs => plain x && plains xs
end
theorem dp_ints {F : Hp} : ∀ ns : List Int, DpAll K F (ns.map V.int) (ns.map PyData.int)
  | [] => .nil
  | n :: ns => .cons (.int n) (dp_ints ns)
mutual
theorem rp_dp {F : Hp} : ∀ {v : V} {d : D}, Rp K F v d → plain d = true → Dp K F v (toP d)
  | _, _, .non, _ => by unfold toP; exact .non
  | _, _, .bl b, _ => by unfold toP; exact .bl b
  | _, _, .int i, _ => by unfold toP; exact .int i
  | _, _, .str x, _ => by unfold toP; exact .str x
  | _, .lst ds, .lst h r, p => by
    unfold toP
    exact .lst (sq_of h) (rpa_dp r (by unfold plain at p; exact p))
  | _, .tup ds, .tup h r, p => by
    unfold toP
    exact .tup (st_of h) (rpa_dp r (by unfold plain at p; exact p))
  | _, .dic _, .dic _ _ _, p => by unfold plain at p; cases p
  | _, .obj _ _, .obj _ _ _, p => by unfold plain at p; cases p
  | _, .exc _, .exc _, p => by unfold plain at p; cases p
  | _, .ptr _, .ptr _, p => by unfold plain at p; cases p
  | _, .scr ns, .scr h, _ => by
    unfold toP
    exact .lst h (dp_ints ns)
theorem rpa_dp {F : Hp} : ∀ {vs : List V} {ds : List D}, RpA K F vs ds → plains ds = true → DpAll K F vs (toPs ds)
  | _, _, .nil, _ => by unfold toPs; exact .nil
  | _, d :: ds, .cons r t, p => by
    unfold plains at p
    rw [Bool.and_eq_true] at p
    unfold toPs
    exact .cons (rp_dp r p.1) (rpa_dp t p.2)
end
def eqD (a b : D) : Bool := PyData.eqv (toP a) (toP b)
def okEq (a : D) : Bool := plain a && SeqAt.shaped (toP a)
theorem d_eqD {a b : D} (ha : okEq a = true) (hb : okEq b = true) : Op2 K (gEq K) a b (.bl (eqD a b)) := op2_r (op2_v fun {F H x y} e r1 r2 => by
  unfold okEq at ha hb
  rw [Bool.and_eq_true] at ha hb
  exact ⟨.bl _, .bl _, fun Q q => ⟨toP a, toP b, rp_dp (r1.mono e) ha.1, rp_dp (r2.mono e) hb.1, ha.2, hb.2, q⟩⟩)
theorem sq_rp {F H : Hp} {v : V} {l : List D} (e : Ex F H) (r : Rp K F v (.lst l)) : ∃ a xs, v = .ref a ∧ SqL K H a xs ∧ xs.length = l.length := by
  cases r with
  | lst ha rs => exact ⟨_, _, rfl, sq_of (e _ _ ha), rs.length⟩
theorem d_neLen {a b : List D} (h : a.length ≠ b.length) : Op2 K (gNe K) (.lst a) (.lst b) (.bl true) := op2_r (op2_r (op2_v fun {F H x y} e r1 r2 => by
  obtain ⟨p, xs, rfl, s1, l1⟩ := sq_rp e r1
  obtain ⟨q', ys, rfl, s2, l2⟩ := sq_rp e r2
  exact ⟨.bl _, .bl _, fun Q q => ⟨p, q', xs, ys, rfl, rfl, s1, s2, by rw [l1, l2]; exact h, q⟩⟩))
theorem d_neD {a b : D} (ha : okEq a = true) (hb : okEq b = true) : Op2 K (gNe K) a b (.bl (!eqD a b)) := op2_r (op2_l (op2_v fun {F H x y} e r1 r2 => by
  unfold okEq at ha hb
  rw [Bool.and_eq_true] at ha hb
  exact ⟨.bl _, .bl _, fun Q q => ⟨toP a, toP b, rp_dp (r1.mono e) ha.1, rp_dp (r2.mono e) hb.1, ha.2, hb.2, q⟩⟩))
theorem d_eqI {i j : Int} : Op2 K (gEq K) (.int i) (.int j) (.bl (decide (i = j))) := op2_l (op2_v fun {F H x y} e r1 r2 => ⟨.bl (decide (i = j)), .bl _, fun Q q => by
  rw [rp_int r1, rp_int r2]
  refine ⟨rfl, ?_⟩
  have h : decide (V.int i = V.int j) = decide (i = j) := by
    by_cases z : i = j
    · rw [decide_eq_true z, decide_eq_true (by rw [z])]
    · rw [decide_eq_false z, decide_eq_false (fun q => z (V.int.inj q))]
  rw [h]
  exact q⟩)
theorem d_neI {i j : Int} : Op2 K (gNe K) (.int i) (.int j) (.bl (!decide (i = j))) := op2_l (op2_v fun {F H x y} e r1 r2 => ⟨.bl (!decide (i = j)), .bl _, fun Q q => by
  rw [rp_int r1, rp_int r2]
  refine ⟨rfl, ?_⟩
  have h : decide (V.int i = V.int j) = decide (i = j) := by
    by_cases z : i = j
    · rw [decide_eq_true z, decide_eq_true (by rw [z])]
    · rw [decide_eq_false z, decide_eq_false (fun q => z (V.int.inj q))]
  rw [h]
  exact q⟩)
theorem dec_vstr {i j : Str} : decide (V.str i = V.str j) = decide (i = j) := by
  by_cases z : i = j
  · rw [decide_eq_true z, decide_eq_true (by rw [z])]
  · rw [decide_eq_false z, decide_eq_false (fun q => z (V.str.inj q))]
theorem d_eqS {i j : Str} : Op2 K (gEq K) (.str i) (.str j) (.bl (decide (i = j))) := op2_l (op2_v fun {F H x y} e r1 r2 => ⟨.bl (decide (i = j)), .bl _, fun Q q => by
  rw [rp_str r1, rp_str r2]
  refine ⟨rfl, ?_⟩
  rw [dec_vstr]
  exact q⟩)
theorem d_neS {i j : Str} : Op2 K (gNe K) (.str i) (.str j) (.bl (!decide (i = j))) := op2_l (op2_v fun {F H x y} e r1 r2 => ⟨.bl (!decide (i = j)), .bl _, fun Q q => by
  rw [rp_str r1, rp_str r2]
  refine ⟨rfl, ?_⟩
  rw [dec_vstr]
  exact q⟩)
def isNon : D → Bool
  | .non => true
  | _ => false
theorem rp_isN {F : Hp} {v : V} {d : D} (h : Rp K F v d) : decide (v = .non) = isNon d := by
  cases h <;> rfl
theorem d_isN {d : D} : Op2 K gIs d .non (.bl (isNon d)) := op2_l (op2_v fun {F H x y} e r1 r2 => ⟨.bl (isNon d), .bl _, fun Q q => ⟨rp_non r2, by rw [rp_isN r1]; exact q⟩⟩)
theorem d_niN {d : D} : Op2 K gIn2 d .non (.bl (!isNon d)) := op2_l (op2_v fun {F H x y} e r1 r2 => ⟨.bl (!isNon d), .bl _, fun Q q => ⟨rp_non r2, by rw [rp_isN r1]; exact q⟩⟩)
theorem d_isB {a b : Bool} : Op2 K gIs (.bl a) (.bl b) (.bl (decide (a = b))) := op2_r (op2_v fun {F H x y} e r1 r2 => ⟨_, .bl _, fun Q q => ⟨a, b, rp_bl r1, rp_bl r2, q⟩⟩)
/-! items -/
theorem atI_rp {F : Hp} {vs : List V} {ds : List D} {i : Int} {d : D} (r : RpA K F vs ds) (h : atI ds i = some d) : ∃ v, atI vs i = some v ∧ Rp K F v d := by
  unfold atI at h ⊢
  rw [r.length]
  cases q : ixN ds.length i with
  | none =>
    rw [q] at h
    cases h
  | some j =>
    rw [q] at h
    exact r.get h
theorem d_ixL {i : Int} (h : atI l i = some d) : Op2 K (gIx K) (.lst l) (.int i) d := op2_v fun {F H x y} e r1 r2 => by
  cases r1 with
  | lst h1 s1 =>
    obtain ⟨v, h3, h4⟩ := atI_rp s1 h
    exact ⟨v, h4, fun Q q => Or.inl ⟨_, _, i, v, rfl, rp_int r2, sq_of (e _ _ h1), h3, q⟩⟩
theorem d_ixT {i : Int} (h : atI l i = some d) : Op2 K (gIx K) (.tup l) (.int i) d := op2_v fun {F H x y} e r1 r2 => by
  cases r1 with
  | tup h1 s1 =>
    obtain ⟨v, h3, h4⟩ := atI_rp s1 h
    exact ⟨v, h4, fun Q q => Or.inr (Or.inl ⟨_, _, i, v, rfl, rp_int r2, st_of (e _ _ h1), h3, q⟩)⟩
theorem d_ixR {ns : List Int} {i n : Int} (h : atI ns i = some n) : Op2 K (gIx K) (.scr ns) (.int i) (.int n) := op2_v fun {F H x y} e r1 r2 => by
  cases r1 with
  | scr h1 =>
    refine ⟨.int n, .int n, fun Q q => Or.inl ⟨_, _, i, .int n, rfl, rp_int r2, ex_l e h1, ?_, q⟩⟩
    unfold atI at h ⊢
    rw [List.length_map]
    cases z : ixN ns.length i with
    | none =>
      rw [z] at h
      cases h
    | some j =>
      rw [z] at h
      show (ns.map V.int)[j]? = _
      have h' : ns[j]? = some n := h
      rw [List.getElem?_map, h']
      rfl
theorem d_ixS {z : Str} {i : Int} {c : Nat} (hz : z.length ≤ 100000) (h : atI z.cps.toList i = some c) : Op2 K (gIx K) (.str z) (.int i) (.str ⟨#[c]⟩) := op2_v fun {F H x y} e r1 r2 => by
  refine ⟨.str ⟨#[c]⟩, .str _, fun Q q => Or.inr (Or.inr ?_)⟩
  exact ⟨z, i, c, rp_str r1, rp_int r2, sz_of hz, h, q⟩
theorem atI_getD {α : Type} {xs : List α} {i : Int} (e : α) (h0 : 0 ≤ i) (h1 : i < (xs.length : Int)) : atI xs i = some (xs.getD i.toNat e) := by
  obtain ⟨j, rfl⟩ : ∃ j : Nat, i = (j : Int) := ⟨i.toNat, by omega⟩
  refine atI_nat ?_
  rw [Int.toNat_natCast, List.getD_eq_getElem?_getD, List.getElem?_eq_getElem (by omega)]
  rfl
theorem d_ixLn {i : Int} (h0 : 0 ≤ i) (h1 : i < (l.length : Int)) : Op2 K (gIx K) (.lst l) (.int i) (l.getD i.toNat .non) := d_ixL (atI_getD _ h0 h1)
theorem d_ixTn {i : Int} (h0 : 0 ≤ i) (h1 : i < (l.length : Int)) : Op2 K (gIx K) (.tup l) (.int i) (l.getD i.toNat .non) := d_ixT (atI_getD _ h0 h1)
theorem d_ixRn {ns : List Int} {i : Int} (h0 : 0 ≤ i) (h1 : i < (ns.length : Int)) : Op2 K (gIx K) (.scr ns) (.int i) (.int (ns.getD i.toNat 0)) := d_ixR (atI_getD _ h0 h1)
theorem d_ixSn {z : Str} {i : Int} (hz : z.length ≤ 100000) (h0 : 0 ≤ i) (h1 : i < (z.cps.toList.length : Int)) : Op2 K (gIx K) (.str z) (.int i) (.str ⟨#[z.cps.toList.getD i.toNat 0]⟩) := d_ixS hz (atI_getD _ h0 h1)
theorem getD_mapD {α : Type} (f : α → D) (e : α) : ∀ (ns : List α) (i : Nat), i < ns.length → (ns.map f).getD i .non = f (ns.getD i e)
  | [], i, h => by simp at h
  | n :: ns, 0, _ => rfl
  | n :: ns, i + 1, h => by
    show (ns.map f).getD i .non = f (ns.getD i e)
    exact getD_mapD f e ns i (by simpa using h)
theorem d_ixI {ns : List Int} {i : Int} (h0 : 0 ≤ i) (h1 : i < (ns.length : Int)) : Op2 K (gIx K) (.lst (ns.map D.int)) (.int i) (.int (ns.getD i.toNat 0)) := by
  have h := d_ixLn (K := K) (l := ns.map D.int) (i := i) h0 (by rw [List.length_map]; exact h1)
  rw [getD_mapD D.int 0 ns _ (by omega)] at h
  exact h
theorem d_ixStr {ns : List Str} {i : Int} (h0 : 0 ≤ i) (h1 : i < (ns.length : Int)) : Op2 K (gIx K) (.lst (ns.map D.str)) (.int i) (.str (ns.getD i.toNat Str.empty)) := by
  have h := d_ixLn (K := K) (l := ns.map D.str) (i := i) h0 (by rw [List.length_map]; exact h1)
  rw [getD_mapD D.str Str.empty ns _ (by omega)] at h
  exact h
theorem getD_in {α : Type} (e : α) : ∀ (ns : List α) (i : Nat), i < ns.length → ns.getD i e ∈ ns
  | [], i, h => by simp at h
  | n :: ns, 0, _ => List.mem_cons_self
  | n :: ns, i + 1, h => List.mem_cons_of_mem _ (getD_in e ns i (by simpa using h))
/-! slices -/
def cutD (xs : List D) (lo hi : Option Int) : List D := (xs.drop (HT.sIx xs.length 0 lo)).take (HT.sIx xs.length xs.length hi - HT.sIx xs.length 0 lo)
theorem cutD_rp {F : Hp} {vs : List V} {ds : List D} (r : RpA K F vs ds) (lo hi : Option Int) : RpA K F (cutV vs lo hi) (cutD ds lo hi) := by
  unfold cutV cutD
  rw [r.length]
  exact (r.drop _).take _
theorem o_sl {tl th : TO} {lo hi : Option Int} (h : EvD K te G (.lst l)) (h1 : EvP K tl G lo) (h2 : EvP K th G hi) : EvO K (tSl (gSl K) te tl th) G (cutD l lo hi) := .mk fun {H0 F0 F H σ} E Q q =>
  h E _ fun v F1 H1 E1 f1 g1 n1 r1 => h1 E1 _ fun F2 H2 E2 f2 g2 n2 => h2 E2 _ fun F3 H3 E3 f3 g3 n3 => by
    cases r1 with
    | lst ha rs =>
      refine Or.inl ⟨_, _, rfl, sq_of (g3 _ _ (g2 _ _ (E1.ef _ _ ha))), fun p hp => ?_⟩
      exact q p _ F3 _ (E3.grow (Ex.refl _) (Ex.new hp) (E3.ef.trans (Ex.new hp)) (Nw.refl _ _)) ((f1.trans f2).trans f3) (((g1.trans g2).trans g3).trans (Ex.new hp)) ((n1.trans n2 g1).trans n3 (g1.trans g2))
        (ex_none ((g1.trans g2).trans g3) hp) (ex_none E3.ef hp) upd_same (cutD_rp (rs.mono (f2.trans f3)) lo hi)
theorem e_slS {tl th : TO} {z : Str} {lo hi : Option Int} (h : EvD K te G (.str z)) (h1 : EvP K tl G lo) (h2 : EvP K th G hi) (hz : z.length ≤ 100000) : EvD K (tSl (gSl K) te tl th) G (.str (cutS z lo hi)) := .mk fun {H0 F0 F H σ} E Q q =>
  h E _ fun v F1 H1 E1 f1 g1 n1 r1 => h1 E1 _ fun F2 H2 E2 f2 g2 n2 => h2 E2 _ fun F3 H3 E3 f3 g3 n3 => by
    cases r1
    exact Or.inr ⟨z, rfl, sz_of hz, q _ F3 H3 E3 ((f1.trans f2).trans f3) ((g1.trans g2).trans g3) ((n1.trans n2 g1).trans n3 (g1.trans g2)) (.str _)⟩
/-! calls of built-ins -/
theorem n_max2 {i j : Int} : OpN K (gMax K) [.int i, .int j] (.int (max i j)) := opn_l (op1_v fun {F H vs} e r => by
  obtain ⟨v, w, rfl, r1, r2⟩ := rpa2 r
  refine ⟨.int (max i j), .int _, fun Q q => ⟨i, j, by rw [rp_int r1, rp_int r2], ?_⟩⟩
  have h : (if j > i then j else i) = max i j := by
    by_cases z : j > i
    · rw [if_pos z]
      omega
    · rw [if_neg z]
      omega
  rw [h]
  exact q)
theorem n_min2 {i j : Int} : OpN K (gMin K) [.int i, .int j] (.int (min i j)) := opn_l (op1_v fun {F H vs} e r => by
  obtain ⟨v, w, rfl, r1, r2⟩ := rpa2 r
  refine ⟨.int (min i j), .int _, fun Q q => ⟨i, j, by rw [rp_int r1, rp_int r2], ?_⟩⟩
  have h : (if j < i then j else i) = min i j := by
    by_cases z : j < i
    · rw [if_pos z]
      omega
    · rw [if_neg z]
      omega
  rw [h]
  exact q)
theorem n_abs {i : Int} : OpN K rAbs [.int i] (.int (i.natAbs : Int)) := op1_v fun {F H vs} e r => by
  obtain ⟨v, rfl, r1⟩ := rpa1 r
  refine ⟨.int (i.natAbs : Int), .int _, fun Q q => ⟨i, by rw [rp_int r1], ?_⟩⟩
  have h : (if i < 0 then -i else i) = (i.natAbs : Int) := by
    by_cases z : i < 0
    · rw [if_pos z]
      omega
    · rw [if_neg z]
      omega
  rw [h]
  exact q
theorem n_lenL : OpN K (rLen K) [.lst l] (.int (l.length : Int)) := op1_v fun {F H vs} e r => by
  obtain ⟨v, rfl, r1⟩ := rpa1 r
  cases r1 with
  | lst h1 s1 => exact ⟨.int _, .int _, fun Q q => ⟨_, l.length, rfl, Or.inl ⟨_, sq_of (e _ _ h1), s1.length.symm⟩, q⟩⟩
theorem n_lenT : OpN K (rLen K) [.tup l] (.int (l.length : Int)) := op1_v fun {F H vs} e r => by
  obtain ⟨v, rfl, r1⟩ := rpa1 r
  cases r1 with
  | tup h1 s1 => exact ⟨.int _, .int _, fun Q q => ⟨_, l.length, rfl, Or.inr ⟨_, st_of (e _ _ h1), s1.length.symm⟩, q⟩⟩
theorem n_lenR {ns : List Int} : OpN K (rLen K) [.scr ns] (.int (ns.length : Int)) := op1_v fun {F H vs} e r => by
  obtain ⟨v, rfl, r1⟩ := rpa1 r
  cases r1 with
  | scr h1 => exact ⟨.int _, .int _, fun Q q => ⟨_, ns.length, rfl, Or.inl ⟨_, ex_l e h1, by rw [List.length_map]⟩, q⟩⟩
theorem n_lenS {z : Str} (hz : z.length ≤ 100000) : OpN K (rLen K) [.str z] (.int (z.length : Int)) := op1_v fun {F H vs} e r => by
  obtain ⟨v, rfl, r1⟩ := rpa1 r
  cases r1
  exact ⟨.int _, .int _, fun Q q => ⟨_, z.length, rfl, ⟨sz_of hz, rfl⟩, q⟩⟩
theorem n_intS {z : Str} {n : Int} (h : PySem.intText? z = some n) (hz : z.length ≤ 640) : OpN K gInt [.str z] (.int n) := opn_r (op1_v fun {F H vs} e r => by
  obtain ⟨v, rfl, r1⟩ := rpa1 r
  cases r1
  exact ⟨.int _, .int _, fun Q q => ⟨z, n, rfl, h, hz, q⟩⟩)
theorem n_strI {n : Int} (h : n.natAbs.log2 < 1920) : OpN K gStr [.int n] (.str (toString n)) := opn_l (op1_v fun {F H vs} e r => by
  obtain ⟨v, rfl, r1⟩ := rpa1 r
  cases r1
  exact ⟨.str _, .str _, fun Q q => ⟨n, rfl, h, q⟩⟩)
def reprB (b : Bool) : Str := if b then "True" else "False"
theorem n_reprB {b : Bool} : OpN K gRepr [.bl b] (.str (reprB b)) := opn_r (opn_l (op1_v fun {F H vs} e r => by
  obtain ⟨v, rfl, r1⟩ := rpa1 r
  cases r1
  refine ⟨.str (reprB b), .str _, fun Q q => ⟨b, rfl, ?_⟩⟩
  unfold reprB at q
  cases b <;> exact q))
theorem n_reprI {n : Int} (h : n.natAbs.log2 < 1920) : OpN K gRepr [.int n] (.str (toString n)) := opn_l (op1_v fun {F H vs} e r => by
  obtain ⟨v, rfl, r1⟩ := rpa1 r
  cases r1
  exact ⟨.str _, .str _, fun Q q => ⟨n, rfl, h, q⟩⟩)
theorem n_reprN : OpN K gRepr [.non] (.str "None") := opn_r (opn_r (opn_l (op1_v fun {F H vs} e r => by
  obtain ⟨v, rfl, r1⟩ := rpa1 r
  cases r1
  exact ⟨.str _, .str _, fun Q q => ⟨rfl, q⟩⟩)))
theorem n_reprS {z : Str} (h : (reprText z).length ≤ sizeLine) : OpN K gRepr [.str z] (.str (reprText z)) := opn_r (opn_r (opn_r (op1_v fun {F H vs} e r => by
  obtain ⟨v, rfl, r1⟩ := rpa1 r
  cases r1
  exact ⟨.str _, .str _, fun Q q => ⟨z, rfl, h, q⟩⟩)))
theorem n_listL : OpNO K (rListOf K) [.lst l] l := .mk fun {F H vs} e r Q q => by
  obtain ⟨v, rfl, r1⟩ := rpa1 r
  cases r1 with
  | lst h1 s1 => exact ⟨_, _, rfl, Or.inl (sq_of (e _ _ h1)), fun p hp => q p _ _ (Ex.new hp) hp upd_same s1⟩
theorem n_listT : OpNO K (rListOf K) [.tup l] l := .mk fun {F H vs} e r Q q => by
  obtain ⟨v, rfl, r1⟩ := rpa1 r
  cases r1 with
  | tup h1 s1 => exact ⟨_, _, rfl, Or.inr (st_of (e _ _ h1)), fun p hp => q p _ _ (Ex.new hp) hp upd_same s1⟩
theorem n_all {bs : List Bool} : OpN K (rAll K) [.lst (bs.map D.bl)] (.bl (bs.all id)) := op1_v fun {F H vs} e r => by
  obtain ⟨v, rfl, r1⟩ := rpa1 r
  cases r1 with
  | lst h1 s1 => exact ⟨.bl _, .bl _, fun Q q => ⟨_, bs, rfl, sq_of (e _ _ (by rw [h1, s1.bls])), q⟩⟩
theorem n_any {bs : List Bool} : OpN K (rAny K) [.lst (bs.map D.bl)] (.bl (bs.any id)) := op1_v fun {F H vs} e r => by
  obtain ⟨v, rfl, r1⟩ := rpa1 r
  cases r1 with
  | lst h1 s1 => exact ⟨.bl _, .bl _, fun Q q => ⟨_, bs, rfl, sq_of (e _ _ (by rw [h1, s1.bls])), q⟩⟩
/-- the greatest, the least of a list -/
theorem n_maxL {ns : List Int} {m : Int} (h0 : m ∈ ns) (h1 : ∀ y ∈ ns, y ≤ m) : OpN K (gMax K) [.lst (ns.map D.int)] (.int m) := opn_r (op1_v fun {F H vs} e r => by
  obtain ⟨v, rfl, r1⟩ := rpa1 r
  cases r1 with
  | lst h2 s1 =>
    refine ⟨.int m, .int _, fun Q q => ⟨_, ns, rfl, sq_of (e _ _ (by rw [h2, s1.ints])), List.length_pos_of_mem h0, fun m' hm' hy => ?_⟩⟩
    have e1 := h1 m' hm'
    have e2 := hy m h0
    have e3 : m' = m := by omega
    rw [e3]
    exact q)
theorem n_minL {ns : List Int} {m : Int} (h0 : m ∈ ns) (h1 : ∀ y ∈ ns, m ≤ y) : OpN K (gMin K) [.lst (ns.map D.int)] (.int m) := opn_r (op1_v fun {F H vs} e r => by
  obtain ⟨v, rfl, r1⟩ := rpa1 r
  cases r1 with
  | lst h2 s1 =>
    refine ⟨.int m, .int _, fun Q q => ⟨_, ns, rfl, sq_of (e _ _ (by rw [h2, s1.ints])), List.length_pos_of_mem h0, fun m' hm' hy => ?_⟩⟩
    have e1 := h1 m' hm'
    have e2 := hy m h0
    have e3 : m' = m := by omega
    rw [e3]
    exact q)
/-! isinstance -/
theorem ty_of {F : Hp} {v : V} {d : D} (h : Rp K F v d) (hn : noObj d = true) {H : Hp} (e : Ex F H) : TyX K H v (.type (kindD d)) := by
  cases h with
  | non => exact .base .non
  | bl b => exact .base (.bl b)
  | int i => exact .base (.int i)
  | str x => exact .base (.str x)
  | lst h1 _ => exact .base (.lst (e _ _ h1))
  | tup h1 _ => exact .base (.tup (e _ _ h1))
  | dic h1 _ _ => exact .base (.dK (e _ _ h1))
  | obj _ _ _ => cases hn
  | exc _ => cases hn
  | ptr _ => cases hn
  | scr h1 =>
    rcases ex_l e h1 with (h2 | ⟨o, h2⟩) | ⟨o, its, n, h2, h3, _⟩
    · exact .base (.lst h2)
    · exact .base (.frz h2)
    · exact .kList h2 h3
def isS : D → Bool
  | .str _ => true
  | _ => false
def isI : D → Bool
  | .int _ => true
  | .bl _ => true
  | _ => false
def isB : D → Bool
  | .bl _ => true
  | _ => false
def isL : D → Bool
  | .lst _ => true
  | .scr _ => true
  | _ => false
def isT : D → Bool
  | .tup _ => true
  | _ => false
theorem kit_str {x : D} (hn : noObj x = true) : kitB (kindD x) "str" = some (isS x) := by
  cases x with
  | non => exact (by decide +kernel : kitB "NoneType" "str" = some false)
  | bl _ => exact (by decide +kernel : kitB "bool" "str" = some false)
  | int _ => exact (by decide +kernel : kitB "int" "str" = some false)
  | str _ => exact (by decide +kernel : kitB "str" "str" = some true)
  | lst _ => exact (by decide +kernel : kitB "list" "str" = some false)
  | tup _ => exact (by decide +kernel : kitB "tuple" "str" = some false)
  | dic _ => exact (by decide +kernel : kitB "dict" "str" = some false)
  | obj _ _ => cases hn
  | exc _ => cases hn
  | ptr _ => cases hn
  | scr _ => exact (by decide +kernel : kitB "list" "str" = some false)
theorem kit_int {x : D} (hn : noObj x = true) : kitB (kindD x) "int" = some (isI x) := by
  cases x with
  | non => exact (by decide +kernel : kitB "NoneType" "int" = some false)
  | bl _ => exact (by decide +kernel : kitB "bool" "int" = some true)
  | int _ => exact (by decide +kernel : kitB "int" "int" = some true)
  | str _ => exact (by decide +kernel : kitB "str" "int" = some false)
  | lst _ => exact (by decide +kernel : kitB "list" "int" = some false)
  | tup _ => exact (by decide +kernel : kitB "tuple" "int" = some false)
  | dic _ => exact (by decide +kernel : kitB "dict" "int" = some false)
  | obj _ _ => cases hn
  | exc _ => cases hn
  | ptr _ => cases hn
  | scr _ => exact (by decide +kernel : kitB "list" "int" = some false)
theorem kit_bool {x : D} (hn : noObj x = true) : kitB (kindD x) "bool" = some (isB x) := by
  cases x with
  | non => exact (by decide +kernel : kitB "NoneType" "bool" = some false)
  | bl _ => exact (by decide +kernel : kitB "bool" "bool" = some true)
  | int _ => exact (by decide +kernel : kitB "int" "bool" = some false)
  | str _ => exact (by decide +kernel : kitB "str" "bool" = some false)
  | lst _ => exact (by decide +kernel : kitB "list" "bool" = some false)
  | tup _ => exact (by decide +kernel : kitB "tuple" "bool" = some false)
  | dic _ => exact (by decide +kernel : kitB "dict" "bool" = some false)
  | obj _ _ => cases hn
  | exc _ => cases hn
  | ptr _ => cases hn
  | scr _ => exact (by decide +kernel : kitB "list" "bool" = some false)
theorem kit_list {x : D} (hn : noObj x = true) : kitB (kindD x) "list" = some (isL x) := by
  cases x with
  | non => exact (by decide +kernel : kitB "NoneType" "list" = some false)
  | bl _ => exact (by decide +kernel : kitB "bool" "list" = some false)
  | int _ => exact (by decide +kernel : kitB "int" "list" = some false)
  | str _ => exact (by decide +kernel : kitB "str" "list" = some false)
  | lst _ => exact (by decide +kernel : kitB "list" "list" = some true)
  | tup _ => exact (by decide +kernel : kitB "tuple" "list" = some false)
  | dic _ => exact (by decide +kernel : kitB "dict" "list" = some false)
  | obj _ _ => cases hn
  | exc _ => cases hn
  | ptr _ => cases hn
  | scr _ => exact (by decide +kernel : kitB "list" "list" = some true)
theorem kit_tuple {x : D} (hn : noObj x = true) : kitB (kindD x) "tuple" = some (isT x) := by
  cases x with
  | non => exact (by decide +kernel : kitB "NoneType" "tuple" = some false)
  | bl _ => exact (by decide +kernel : kitB "bool" "tuple" = some false)
  | int _ => exact (by decide +kernel : kitB "int" "tuple" = some false)
  | str _ => exact (by decide +kernel : kitB "str" "tuple" = some false)
  | lst _ => exact (by decide +kernel : kitB "list" "tuple" = some false)
  | tup _ => exact (by decide +kernel : kitB "tuple" "tuple" = some true)
  | dic _ => exact (by decide +kernel : kitB "dict" "tuple" = some false)
  | obj _ _ => cases hn
  | exc _ => cases hn
  | ptr _ => cases hn
  | scr _ => exact (by decide +kernel : kitB "list" "tuple" = some false)
theorem e_isi {T : String} {b : Bool} (h : EvD K ta G d) (hn : noObj d = true) (hk : kitB (kindD d) T = some b) : EvD K (tCB (rIsi K) (tCons ta (tCons (tC (.ty T)) tNil))) G (.bl b) := .mk fun {H0 F0 F H σ} E Q q =>
  h E _ fun v F1 H1 E1 f1 g1 n1 r1 => ⟨v, .ty T, .type (kindD d), .type T, b, rfl, .ty T, ty_of r1 hn E1.ef, kit_ty hk, q _ F1 H1 E1 f1 g1 n1 (.bl _)⟩
theorem e_isS (h : EvD K ta G d) (hn : noObj d = true) : EvD K (tCB (rIsi K) (tCons ta (tCons (tC (.ty "str")) tNil))) G (.bl (isS d)) := e_isi h hn (kit_str hn)
theorem e_isI (h : EvD K ta G d) (hn : noObj d = true) : EvD K (tCB (rIsi K) (tCons ta (tCons (tC (.ty "int")) tNil))) G (.bl (isI d)) := e_isi h hn (kit_int hn)
theorem e_isB (h : EvD K ta G d) (hn : noObj d = true) : EvD K (tCB (rIsi K) (tCons ta (tCons (tC (.ty "bool")) tNil))) G (.bl (isB d)) := e_isi h hn (kit_bool hn)
theorem e_isL (h : EvD K ta G d) (hn : noObj d = true) : EvD K (tCB (rIsi K) (tCons ta (tCons (tC (.ty "list")) tNil))) G (.bl (isL d)) := e_isi h hn (kit_list hn)
theorem e_isT (h : EvD K ta G d) (hn : noObj d = true) : EvD K (tCB (rIsi K) (tCons ta (tCons (tC (.ty "tuple")) tNil))) G (.bl (isT d)) := e_isi h hn (kit_tuple hn)
/-- sep.join(list of texts) -/
def rJoin (K : PySem.W.Frag) : V → List V → Hp → VK → Prop := fun x xs H Q => ∃ a p, ∃ ys : List Str, x = .str a ∧ xs = [.ref p] ∧ (SqL K H p (ys.map V.str) ∨ SqT K H p (ys.map V.str)) ∧
      (ys.map (·.length)).sum + ys.length * a.length ≤ 16777216 ∧ Q (.str (Txt.join a ys)) H
theorem e_join {a : Str} {ys : List Str} (h : EvD K ta G (.str a)) (h2 : EvD K tb G (.lst (ys.map D.str))) (hz : (ys.map (·.length)).sum + ys.length * a.length ≤ 16777216) : EvD K (tM1 (rJoin K) ta tb) G (.str (Txt.join a ys)) := .mk fun {H0 F0 F H σ} E Q q =>
  h E _ fun v F1 H1 E1 f1 g1 n1 r1 => by
    cases r1
    refine ⟨⟨a, rfl⟩, h2 E1 _ fun w F2 H2 E2 f2 g2 n2 r2 => ?_⟩
    cases r2 with
    | lst h3 s3 => exact ⟨a, _, ys, rfl, rfl, Or.inl (sq_of (E2.ef _ _ (by rw [h3, s3.strs]))), hz, q _ F2 H2 E2 (f1.trans f2) (g1.trans g2) (n1.trans n2 g1) (.str _)⟩
/-- text.index(sign) -/
def rSIndex : V → List V → Hp → VK → Prop := fun x xs H Q => ∃ a b i rest, x = .str a ∧ xs = [.str b] ∧ Builtin.Str.occurrences a b 0 a.length 1 = i :: rest ∧ Q (.int (i : Nat)) H
theorem e_sindex {a b : Str} {i : Nat} {rest : List Nat} (h : EvD K ta G (.str a)) (h2 : EvD K tb G (.str b)) (ho : Builtin.Str.occurrences a b 0 a.length 1 = i :: rest) : EvD K (tM1 rSIndex ta tb) G (.int (i : Int)) := .mk fun {H0 F0 F H σ} E Q q =>
  h E _ fun v F1 H1 E1 f1 g1 n1 r1 => by
    cases r1
    refine ⟨⟨a, rfl⟩, h2 E1 _ fun w F2 H2 E2 f2 g2 n2 r2 => ?_⟩
    cases r2
    exact ⟨a, b, i, rest, rfl, rfl, ho, q _ F2 H2 E2 (f1.trans f2) (g1.trans g2) (n1.trans n2 g1) (.int _)⟩
/-- {} and a written dict of one pair of numbers -/
theorem e_dnew : EvD K tDNewK G (.dic []) := .mk fun {H0 F0 F H σ} E Q q => fun p hp => by
  have ef : Ex F (upd F p (.dK [])) := Ex.new (ex_none E.ef hp)
  exact q _ (upd F p (.dK [])) _ (E.grow ef (Ex.new hp) (ex_upd_both E.ef) (nw_upd hp (Nw.refl _ _))) ef (Ex.new hp) (nw_upd hp (Nw.refl _ _)) (.dic (es := []) upd_same rfl .nil)
theorem e_disp1 {a b : Int} : EvD K (tDisp [((tC (.int a)), (tC (.int b)))]) G (.dic [(Sum.inl a, .int b)]) := .mk fun {H0 F0 F H σ} E Q q => fun p hp => by
  refine ⟨upd_same, [(Sum.inl a, V.int b)], rfl, (by show 1 ≤ 15; decide), ?_⟩
  rw [upd_upd]
  have ef : Ex F (upd F p (.dK [(Sum.inl a, V.int b)])) := Ex.new (ex_none E.ef hp)
  exact q _ (upd F p (.dK [(Sum.inl a, V.int b)])) _ (E.grow ef (Ex.new hp) (ex_upd_both E.ef) (nw_upd hp (Nw.refl _ _))) ef (Ex.new hp) (nw_upd hp (Nw.refl _ _)) (.dic (es := [(Sum.inl a, .int b)]) upd_same rfl (.cons (.int b) .nil))
theorem op1_neg {i : Int} : Op1 K (rU fun i => .int (-i)) (.int i) (.int (-i)) := .mk fun {F H x} e r Q q => ⟨i, rp_int r, q _ F H (Ex.refl F) e (Ex.refl H) (Nw.refl F H) (.int _)⟩
/-- fields -/
theorem lookup_rp {F : Hp} {f : Str} {d : D} : ∀ {gs : List (Str × V)} {fs : List (Str × D)}, gs.map (fun p => p.1) = fs.map (fun p => p.1) → RpA K F (gs.map fun p => p.2) (fs.map fun p => p.2) → fs.lookup f = some d → ∃ v, gs.lookup f = some v ∧ Rp K F v d
  | [], [], _, _, h => by cases h
  | [], _ :: _, h, _, _ => by cases h
  | _ :: _, [], h, _, _ => by cases h
  | (a, v) :: gs, (b, e) :: fs, hn, r, h => by
    have hab : a = b := by
      have := congrArg List.head? hn
      simpa using this
    have hn' : gs.map (fun p => p.1) = fs.map (fun p => p.1) := by
      have := congrArg List.tail hn
      simpa using this
    subst hab
    have r' : RpA K F (v :: gs.map fun p => p.2) (e :: fs.map fun p => p.2) := r
    cases r' with
    | cons r1 r2 =>
      by_cases z : f == a
      · rw [List.lookup_cons, z] at h ⊢
        cases h
        exact ⟨v, rfl, r1⟩
      · have z' : (f == a) = false := by simpa using z
        rw [List.lookup_cons, z'] at h ⊢
        exact lookup_rp hn' r2 h
theorem e_fld {C : Addr} {fs : List (Str × D)} {f : Str} (h : EvD K ta G (.obj C fs)) (hc : Cls K C) (hn : NoAttr K C f) (hl : fs.lookup f = some d) : EvD K (tFld K ta f) G d := .mk fun {H0 F0 F H σ} E Q q =>
  h E _ fun v F1 H1 E1 f1 g1 n1 r1 => by
    cases r1 with
    | obj h1 h2 h3 =>
      obtain ⟨v, k1, k2⟩ := lookup_rp h2 h3 hl
      exact ⟨_, C, _, _, v, rfl, E1.ef _ _ h1, hc, hn, k1, q v F1 H1 E1 f1 g1 n1 k2⟩
end
end Cy

set_option Elab.async false
set_option linter.all false
set_option maxRecDepth 100000
set_option maxHeartbeats 2000000
namespace Cy
open PySem L2 Evl
section
variable {K : PySem.W.Frag} {G G1 G2 : List Sl} {ta tb te tx : TE} {t u tt : TT} {tu tw tz : TS} {a b c d : D} {o : Out} {g : TG}
theorem st_guard {x : Bool} (h : EvTt K t G x) (h1 : x = true → StD K tu G (.rt d)) (h2 : x = false → StD K tw G (.rt d)) : StD K (tSeq (tIfS t tu tNext) tw) G (.rt d) := by
  cases x with
  | true => exact st_stop (st_if h (fun _ => h1 rfl) (fun q => nomatch q)) (fun _ q => nomatch q)
  | false => exact st_seq (st_if h (fun q => nomatch q) (fun _ => st_next)) (h2 rfl)
theorem st_guardO {x : Bool} {l : List D} (h : EvTt K t G x) (h1 : x = true → StD K tu G (.ro l)) (h2 : x = false → StD K tw G (.ro l)) : StD K (tSeq (tIfS t tu tNext) tw) G (.ro l) := by
  cases x with
  | true => exact st_stop (st_if h (fun _ => h1 rfl) (fun q => nomatch q)) (fun _ q => nomatch q)
  | false => exact st_seq (st_if h (fun q => nomatch q) (fun _ => st_next)) (h2 rfl)
/-- a guard that never fires -/
theorem st_pass (h : EvTt K t G false) (h2 : StD K tw G o) : StD K (tSeq (tIfS t tu tNext) tw) G o := st_seq (st_if h (fun q => nomatch q) (fun _ => st_next)) h2
theorem getD_map_range (items : List D) : (List.range items.length).map (fun i => items.getD i .non) = items := by
  apply List.ext_getElem
  · rw [List.length_map, List.length_range]
  · intro i h1 h2
    rw [List.getElem_map, List.getElem_range, List.getD_eq_getElem?_getD, List.getElem?_eq_getElem h2]
    rfl
theorem lcD_items (items : List D) (f : D → Bool) (v : D → D) : lcD items.length (fun i => f (items.getD i .non)) (fun i => v (items.getD i .non)) = (items.filter f).map v := by
  unfold lcD
  conv => rhs; rw [← getD_map_range items]
  rw [List.filter_map, List.map_map]
  rfl
theorem getD_of {items : List D} {i : Nat} (h : i < items.length) : items.getD i .non = items[i] := by
  rw [List.getD_eq_getElem?_getD, List.getElem?_eq_getElem h]
  rfl
theorem o_lcF {wi : TI} {items : List D} {j : Nat} (f : D → Bool) (v : D → D) (hi : ItD K wi G items) (hz : items.length ≤ 40000)
    (hf : ∀ d, d ∈ items → EvTt K tt ((wipeG G [j]).set j (.dat d)) (f d)) (hv : ∀ d, d ∈ items → f d = true → EvD K te ((wipeG G [j]).set j (.dat d)) (v d)) :
    EvO K (tLc wi (gName j) tt te [j]) G ((items.filter f).map v) := by
  rw [← lcD_items items f v]
  refine o_lc _ _ (fun i => (wipeG G [j]).set j (.dat (items.getD i .non))) keeps1 hi hz (fun i d h => ?_) (fun i h => ?_) (fun i h hh => ?_)
  · have hl := (List.getElem?_eq_some_iff.mp h)
    obtain ⟨h1, h2⟩ := hl
    rw [getD_of h1, h2]
    exact g_name
  · skip
    rw [getD_of h]
    exact hf _ (List.getElem_mem h)
  · skip
    rw [getD_of h] at hh ⊢
    exact hv _ (List.getElem_mem h) hh
theorem filter_true {α : Type} (l : List α) : l.filter (fun _ => true) = l := List.filter_eq_self.mpr fun _ _ => rfl
theorem o_lcM {wi : TI} {items : List D} {j : Nat} (v : D → D) (hi : ItD K wi G items) (hz : items.length ≤ 40000)
    (hv : ∀ d, d ∈ items → EvD K te ((wipeG G [j]).set j (.dat d)) (v d)) : EvO K (tLc wi (gName j) tYes te [j]) G (items.map v) := by
  have h := o_lcF (K := K) (G := G) (te := te) (tt := tYes) (j := j) (fun _ => true) v hi hz (fun d hd => t_yes) (fun d hd _ => hv d hd)
  rw [filter_true] at h
  exact h
/-- two names -/
theorem o_lcM2 {wi : TI} {items : List D} {i j : Nat} (hij : i ≠ j) (v w x : D → D) (hi : ItD K wi G items) (hz : items.length ≤ 40000) (hp : ∀ d, d ∈ items → d = .tup [v d, w d])
    (hv : ∀ d, d ∈ items → EvD K te (((wipeG G [i, j]).set i (.dat (v d))).set j (.dat (w d))) (x d)) : EvO K (tLc wi (gTup K 2 (gCons (gName i) (gCons (gName j) gNil))) tYes te [i, j]) G (items.map x) := by
  have e : items.map x = lcD items.length (fun _ => true) (fun i => x (items.getD i .non)) := by
    have := lcD_items items (fun _ => true) x
    rw [this, filter_true]
  rw [e]
  refine o_lc _ _ (fun n => ((wipeG G [i, j]).set i (.dat (v (items.getD n .non)))).set j (.dat (w (items.getD n .non)))) (keeps2 hij) hi hz (fun n d h => ?_) (fun n h => t_yes) (fun n h _ => ?_)
  · obtain ⟨h1, h2⟩ := List.getElem?_eq_some_iff.mp h
    rw [getD_of h1, h2]
    have hm : d ∈ items := h2 ▸ List.getElem_mem h1
    have hd := hp d hm
    conv => arg 4; rw [hd]
    exact g_tup (gs_cons g_name (gs_cons g_name gs_nil)) rfl
  · skip
    rw [getD_of h]
    exact hv _ (List.getElem_mem h)
/-- x, y = e1, e2 -/
theorem st_par {i j : Nat} {ta : TA} (h : EvS K ta G [a, b]) : StD K (tPar i j ta) G (.nx ((G.set i (.dat a)).set j (.dat b))) := .mk fun {H0 F0 F H σ E} En p => h En _ fun vs F1 H1 E1 f1 g1 n1 r1 => by
  obtain ⟨v, w, rfl, r2, r3⟩ := rpa2 r1
  exact ⟨v, w, rfl, p _ F1 H1 ((E1.setD r2 i).setD r3 j) f1⟩
theorem st_retN : StD K tRetN G (.rt .non) := .mk fun {H0 F0 F H σ E} En p => p .non F H En.ro .non
/-- xs.clear() of an owned list -/
theorem st_clear {i : Nat} {l : List D} (h : G[i]? = some (.own (.lst l))) : StD K (tDrop (tBM0 K "list" rClear (tVar i))) G (.nx (G.set i (.own (.lst [])))) := .mk fun {H0 F0 F H σ E} En p => by
  unfold tDrop tBM0
  exact e_own h En fun q xs hq hH hF hr => ⟨Or.inl ⟨rfl, xs, sq_of hH⟩, q, xs, rfl, rfl, hH, p σ F _ (En.mut h hq (.lst .nil)) (Ex.refl F)⟩
end
end Cy
namespace Cy
open PySem L2 Evl
/-! data of small depth may be compared -/
def okD : Nat → D → Bool
  | _, .non => true
  | _, .bl _ => true
  | _, .int _ => true
  | _, .str s => PyData.strOk s
  | 0, _ => false
  | n + 1, .lst xs => xs.all (okD n)
  | n + 1, .tup xs => xs.all (okD n)
  | _, .scr _ => false
  | _, .dic _ => false
  | _, .obj _ _ => false
  | _, .exc _ => false
  | _, .ptr _ => false
theorem okD_all {n : Nat} (ih : ∀ d, okD n d = true → plain d = true ∧ (toP d).canLay0 = true ∧ (toP d).depth ≤ n) : ∀ xs : List D, xs.all (okD n) = true → plains xs = true ∧ PyData.canLayAll0 (toPs xs) = true ∧ PyData.depthAll (toPs xs) ≤ n
  | [], _ => ⟨by unfold plains; rfl, by unfold toPs PyData.canLayAll0; rfl, by unfold toPs PyData.depthAll; exact Nat.zero_le _⟩
  | x :: xs, h => by
    rw [List.all_cons, Bool.and_eq_true] at h
    obtain ⟨a, b, c⟩ := ih x h.1
    obtain ⟨a', b', c'⟩ := okD_all ih xs h.2
    refine ⟨by unfold plains; rw [a, a']; rfl, by unfold toPs PyData.canLayAll0; rw [b, b']; rfl, by unfold toPs PyData.depthAll; exact Nat.max_le.mpr ⟨c, c'⟩⟩
theorem okD_ok : ∀ (n : Nat) (d : D), okD n d = true → plain d = true ∧ (toP d).canLay0 = true ∧ (toP d).depth ≤ n := by
  intro n
  induction n with
  | zero =>
    intro d h
    cases d with
    | non => exact ⟨by unfold plain; rfl, by unfold toP PyData.canLay0; rfl, by unfold toP PyData.depth; exact Nat.zero_le _⟩
    | bl _ => exact ⟨by unfold plain; rfl, by unfold toP PyData.canLay0; rfl, by unfold toP PyData.depth; exact Nat.zero_le _⟩
    | int _ => exact ⟨by unfold plain; rfl, by unfold toP PyData.canLay0; rfl, by unfold toP PyData.depth; exact Nat.zero_le _⟩
    | str s => exact ⟨by unfold plain; rfl, by unfold toP PyData.canLay0; unfold okD at h; exact h, by unfold toP PyData.depth; exact Nat.zero_le _⟩
    | lst _ => unfold okD at h; cases h
    | tup _ => unfold okD at h; cases h
    | dic _ => unfold okD at h; cases h
    | obj _ _ => unfold okD at h; cases h
    | exc _ => unfold okD at h; cases h
    | ptr _ => unfold okD at h; cases h
    | scr _ => unfold okD at h; cases h
  | succ n ih =>
    intro d h
    cases d with
    | non => exact ⟨by unfold plain; rfl, by unfold toP PyData.canLay0; rfl, by unfold toP PyData.depth; exact Nat.zero_le _⟩
    | bl _ => exact ⟨by unfold plain; rfl, by unfold toP PyData.canLay0; rfl, by unfold toP PyData.depth; exact Nat.zero_le _⟩
    | int _ => exact ⟨by unfold plain; rfl, by unfold toP PyData.canLay0; rfl, by unfold toP PyData.depth; exact Nat.zero_le _⟩
    | str s => exact ⟨by unfold plain; rfl, by unfold toP PyData.canLay0; unfold okD at h; exact h, by unfold toP PyData.depth; exact Nat.zero_le _⟩
    | lst xs =>
      unfold okD at h
      obtain ⟨a, b, c⟩ := okD_all ih xs h
      exact ⟨by unfold plain; exact a, by unfold toP PyData.canLay0; exact b, by unfold toP PyData.depth; exact Nat.succ_le_succ c⟩
    | tup xs =>
      unfold okD at h
      obtain ⟨a, b, c⟩ := okD_all ih xs h
      exact ⟨by unfold plain; exact a, by unfold toP PyData.canLay0; exact b, by unfold toP PyData.depth; exact Nat.succ_le_succ c⟩
    | dic _ => unfold okD at h; cases h
    | obj _ _ => unfold okD at h; cases h
    | exc _ => unfold okD at h; cases h
    | ptr _ => unfold okD at h; cases h
    | scr _ => unfold okD at h; cases h
theorem ok_eq {n : Nat} {d : D} (h : okD n d = true) (hn : n ≤ 64) : okEq d = true := by
  obtain ⟨a, b, c⟩ := okD_ok n d h
  unfold okEq SeqAt.shaped
  rw [a, b, decide_eq_true (Nat.le_trans c hn)]
  rfl
end Cy

set_option Elab.async false
set_option linter.all false
set_option maxRecDepth 100000
set_option maxHeartbeats 2000000
namespace Cy
open PySem L2 Evl
/-! objects made, their fields set -/
def putD (f : Str) (d : D) : List (Str × D) → List (Str × D)
  | [] => [(f, d)]
  | (g, e) :: r => if g = f then (g, d) :: r else (g, e) :: putD f d r
theorem putF_putD {K : PySem.W.Frag} {F : Hp} {f : Str} {v : V} {d : D} (r : Rp K F v d) : ∀ {gs : List (Str × V)} {fs : List (Str × D)}, gs.map (fun p => p.1) = fs.map (fun p => p.1) → RpA K F (gs.map fun p => p.2) (fs.map fun p => p.2) →
    (putF f v gs).map (fun p => p.1) = (putD f d fs).map (fun p => p.1) ∧ RpA K F ((putF f v gs).map fun p => p.2) ((putD f d fs).map fun p => p.2)
  | [], [], _, _ => ⟨rfl, .cons r .nil⟩
  | [], _ :: _, h, _ => by cases h
  | _ :: _, [], h, _ => by cases h
  | (a, u) :: gs, (b, e) :: fs, hn, hr => by
    have hab : a = b := by
      have := congrArg List.head? hn
      simpa using this
    have hn' : gs.map (fun p => p.1) = fs.map (fun p => p.1) := by
      have := congrArg List.tail hn
      simpa using this
    subst hab
    have hr' : RpA K F (u :: gs.map fun p => p.2) (e :: fs.map fun p => p.2) := hr
    cases hr' with
    | cons r1 r2 =>
      obtain ⟨i1, i2⟩ := putF_putD r hn' r2
      unfold putF putD
      by_cases z : a = f
      · rw [if_pos z, if_pos z]
        exact ⟨by rw [List.map_cons, List.map_cons, hn'], .cons r r2⟩
      · rw [if_neg z, if_neg z]
        exact ⟨by rw [List.map_cons, List.map_cons, i1], .cons r1 i2⟩
section
variable {K : PySem.W.Frag} {G G1 G2 : List Sl} {ta tb te tx : TE} {t u tt : TT} {tu tw tz : TS} {a b c d : D} {o : Out} {g : TG}
theorem st_fld {i : Nat} {p C : Addr} {fs : List (Str × D)} {f : Str} (h : G[i]? = some (.own (.ins p C fs))) (he : EvD K te G d) (hc : Cls K C) (hn : NoAttr K C f) (hl : fs.length < 1000) :
    StD K (sFld K (tVar i) te f) G (.nx (G.set i (.own (.ins p C (putD f d fs))))) := .mk fun {H0 F0 F H σ E} En q => he En _ fun v F1 H1 E1 f1 g1 n1 r1 => by
  obtain ⟨p', o, a1, b1, c1, d1, r2⟩ := E1.own i _ h
  cases r2 with
  | ins hn1 hr1 =>
    refine ⟨_, a1, _, C, _, _, rfl, d1, hc, hn, ?_, ?_⟩
    · have := congrArg List.length hn1
      rw [List.length_map, List.length_map] at this
      rw [this]
      exact hl
    · obtain ⟨k1, k2⟩ := putF_putD (f := f) r1 hn1 hr1
      exact q σ F1 _ (E1.mut h a1 (.ins k1 k2)) f1
/-- the promise of an __init__ -/
def spI (K : PySem.W.Frag) (C : Addr) (R : List D → List (Str × D) → Prop) : Sp := fun vs H Q _ => ∃ F H1 x dx ws ds fs, vs = .ref x :: ws ∧ H = upd (upd H1 dx (.own x)) x (.ins C dx []) ∧ H1 x = none ∧ H1 dx = none ∧ dx ≠ x ∧ Ex F H1 ∧ RpA K F ws ds ∧ R ds fs ∧
  ∀ gs dx' F' H', Ro H1 F F' H' → F' x = none → H' x = some (.ins C dx' gs) → gs.map (fun p => p.1) = fs.map (fun p => p.1) → RpA K F' (gs.map fun p => p.2) (fs.map fun p => p.2) → Q .non H'
theorem spI_len {C : Addr} {R : List D → List (Str × D) → Prop} {vs : List V} {H : Hp} {Q : VK} {E : XK} {n : Nat} (hR : ∀ ds d, R ds d → ds.length = n) (h : spI K C R vs H Q E) : vs.length = n + 1 := by
  obtain ⟨F, H1, x, dx, ws, ds, fs, rfl, _, _, _, _, _, r, h1, _⟩ := h
  rw [List.length_cons, r.length, hR ds fs h1]
theorem e_make {C : Addr} {R : List D → List (Str × D) → Prop} {E : XK} {ta : TA} {ds : List D} {fs : List (Str × D)} (h : EvS K ta G ds) (hR : R ds fs) : EvD K (tMake C (spI K C R) [] E ta) G (.obj C fs) := .mk fun {H0 F0 F H σ} En Q q =>
  h En _ fun vs F1 H1 E1 f1 g1 n1 r1 => fun x dx hx hdx hne => by
    refine ⟨F1, H1, x, dx, vs ++ [], ds, fs, rfl, rfl, hx, hdx, hne, E1.ef, by rw [List.append_nil]; exact r1, hR, fun gs dx' F' H' ro hF hH hn hr => ⟨rfl, ?_⟩⟩
    have ef : Ex F' (upd F' x (.ins C dx' gs)) := Ex.new hF
    have nw : Nw F1 (upd F' x (.ins C dx' gs)) H1 := nw_upd hx ro.nf
    refine q (.ref x) (upd F' x (.ins C dx' gs)) H' (E1.grow (ro.e1.trans ef) ro.e0 (fun z o y => ?_) nw) ((f1.trans ro.e1).trans ef) (g1.trans ro.e0) (n1.trans nw g1) (.obj upd_same hn (hr.mono ef))
    by_cases hz : z = x
    · subst hz
      rw [upd_same] at y
      cases y
      exact hH
    · rw [upd_ne hz] at y
      exact ro.ef z o y
def argsI (n : Nat) (x C : Addr) (ds : List D) : List Sl := .own (.ins x C []) :: args (n - 1) ds
theorem body_I {N : List Str} {C : Addr} {R : List D → List (Str × D) → Prop} {vs : List V} {H : Hp} {Q : VK} {E : XK} {t : TS} (h : spI K C R vs H Q E) (hn : ∀ ds d, R ds d → ds.length + 1 ≤ N.length)
    (hb : ∀ x ds fs, R ds fs → ∃ G, G[0]? = some (.own (.ins x C fs)) ∧ StD K t (argsI N.length x C ds) (.nx G)) : t { nx := fun _ H' => Q .non H', rt := Q } (start N vs) H := by
  obtain ⟨F, H1, x, dx, ws, ds, fs, rfl, rfl, hx, hdx, hne, e, r, hR, q⟩ := h
  obtain ⟨G, hG, hs⟩ := hb x ds fs hR
  have hl := hn ds fs hR
  have eH : Ex H1 (upd (upd H1 dx (.own x)) x (.ins C dx [])) := fun z o y => by
    have h1 : z ≠ x := ne_of_none y hx
    have h2 : z ≠ dx := ne_of_none y hdx
    rw [upd_ne h1, upd_ne h2]
    exact y
  have hstart : start N (.ref x :: ws) = some (.ref x) :: start (N.drop 1) ws := by
    have h1 : ∀ (N : List Str) (vs : List V), start N vs = vs.map some ++ List.replicate (N.length - vs.length) none := fun N vs => by
      first | rfl | (unfold start; rfl)
    rw [h1, h1]
    show some (V.ref x) :: (ws.map some ++ List.replicate (N.length - (ws.length + 1)) none) = some (V.ref x) :: (ws.map some ++ List.replicate ((N.drop 1).length - ws.length) none)
    rw [List.length_drop]
    congr 3
    omega
  rw [hstart]
  have base := start_en (K := K) (N := N.drop 1) e r (by rw [List.length_drop]; omega)
  have E1 : En K H1 F F (upd (upd H1 dx (.own x)) x (.ins C dx [])) (some (.ref x) :: start (N.drop 1) ws) (argsI N.length x C ds) := by
    have hlen : (N.drop 1).length = N.length - 1 := List.length_drop
    unfold argsI
    rw [← hlen]
    refine ⟨fun i d h => ?_, fun i w h => ?_, fun i j li lj p hij h1 h2 h3 => ?_, eH, e.trans eH, Ex.refl F, fun a o h => .inl h, ?_⟩
    · cases i with
      | zero => cases h
      | succ i => exact base.dat i d (by simpa using h)
    · cases i with
      | zero =>
        simp at h
        subst h
        exact ⟨x, _, rfl, ex_none e hx, hx, upd_same, .ins rfl .nil⟩
      | succ i =>
        obtain ⟨p, o, a1, b1, c1, d1, r1⟩ := base.own i w (by simpa using h)
        rw [c1] at d1
        cases d1
    · cases i with
      | zero =>
        cases j with
        | zero => exact absurd rfl hij
        | succ j =>
          obtain ⟨p2, o, a1, b1, c1, d1, r1⟩ := base.own j lj (by simpa using h2)
          rw [c1] at d1
          cases d1
      | succ i =>
        obtain ⟨p2, o, a1, b1, c1, d1, r1⟩ := base.own i li (by simpa using h1)
        rw [c1] at d1
        cases d1
    · rw [List.length_cons, List.length_cons, base.len]
  refine hs E1 fun σ' F' H' E' f' => ?_
  obtain ⟨p, o, a1, b1, c1, d1, r1⟩ := E'.own 0 _ hG
  cases r1 with
  | ins hn1 hr1 =>
    exact q _ _ F' H' E'.ro b1 d1 hn1 hr1
/-! a method of an object that stays as it is -/
theorem lookup_none {f : Str} : ∀ {gs : List (Str × V)} {fs : List (Str × D)}, gs.map (fun p => p.1) = fs.map (fun p => p.1) → fs.lookup f = none → gs.lookup f = none
  | [], [], _, _ => rfl
  | [], _ :: _, h, _ => by cases h
  | _ :: _, [], h, _ => by cases h
  | (a, u) :: gs, (b, e) :: fs, hn, h => by
    have hab : a = b := by
      have := congrArg List.head? hn
      simpa using this
    have hn' : gs.map (fun p => p.1) = fs.map (fun p => p.1) := by
      have := congrArg List.tail hn
      simpa using this
    subst hab
    by_cases z : f == a
    · rw [List.lookup_cons, z] at h
      cases h
    · have z' : (f == a) = false := by simpa using z
      rw [List.lookup_cons, z'] at h ⊢
      exact lookup_none hn' h
theorem e_meth {C : Addr} {fs : List (Str × D)} {m : Str} {R : List D → D → Prop} {E : XK} {ta : TE} {tr : TA} {ds : List D} (h : EvD K ta G (.obj C fs)) (hm : fs.lookup m = none) (hr : EvS K tr G ds) (hR : R (.obj C fs :: ds) d) :
    EvD K (tMeth C m (spD K R) [] E ta tr) G d := .mk fun {H0 F0 F H σ} En Q q => h En _ fun v F1 H1 E1 f1 g1 n1 r1 => by
  have r1' := r1
  cases r1' with
  | obj h1 h2 h3 =>
    refine ⟨_, _, _, rfl, E1.ef _ _ h1, lookup_none h2 hm, hr E1 _ fun vs F2 H2 E2 f2 g2 n2 r2 => ?_⟩
    refine ⟨F2, .obj C fs :: ds, d, E2.ef, by rw [List.append_nil]; exact .cons (r1.mono f2) r2, hR, fun w F3 H3 ro r3 => ?_⟩
    exact q w F3 H3 (E2.grow ro.e1 ro.e0 ro.ef ro.nf) ((f1.trans f2).trans ro.e1) ((g1.trans g2).trans ro.e0) ((n1.trans n2 g1).trans ro.nf (g1.trans g2)) r3
/-! an owned list is shown for a moment: nothing of it stays -/
mutual
def noLst : D → Bool
  | .lst _ => false
  | .tup xs => noLsts xs
  | .dic _ => false
  | .obj _ fs => noLstF fs
  | .exc _ => false
  | .scr _ => false
  | _ => true
def noLsts : List D → Bool
  | [] => true
  | x :: xs => noLst x && noLsts xs
def noLstF : List (Str × D) → Bool
  | [] => true
  | (_, x) :: fs => noLst x && noLstF fs
end
theorem noLstF_map : ∀ fs : List (Str × D), noLstF fs = noLsts (fs.map fun p => p.2)
  | [] => by
    unfold noLstF
    rw [List.map_nil]
    unfold noLsts
    rfl
  | (s, x) :: fs => by
    unfold noLstF
    rw [List.map_cons]
    unfold noLsts
    rw [noLstF_map fs]
def hid (F : Hp) (p : Addr) : Hp := fun a => if a = p then none else F a
theorem hid_ne {F : Hp} {p a : Addr} (h : a ≠ p) : hid F p a = F a := if_neg h
mutual
theorem Rp.hid {F : Hp} {p : Addr} {xs : List V} (hp : F p = some (.lst xs)) : ∀ {v : V} {d : D}, Rp K F v d → noLst d = true → Rp K (hid F p) v d
  | _, _, .non, _ => .non
  | _, _, .bl b, _ => .bl b
  | _, _, .int i, _ => .int i
  | _, _, .str x, _ => .str x
  | _, .tup ds, .tup h r, q => .tup (by
      rw [hid_ne (fun z => by subst z; rw [hp] at h; cases h)]
      exact h) (RpA.hid hp r (by unfold noLst at q; exact q))
  | _, .lst _, .lst _ _, q => by unfold noLst at q; cases q
  | _, .dic _, .dic _ _ _, q => by unfold noLst at q; cases q
  | _, .obj C fs, .obj h1 h2 r, q => .obj (by
      rw [hid_ne (fun z => by subst z; rw [hp] at h1; cases h1)]
      exact h1) h2 (RpA.hid hp r (by unfold noLst at q; rw [noLstF_map] at q; exact q))
  | _, .exc _, .exc _, q => by unfold noLst at q; cases q
  | _, .ptr _, .ptr a, _ => .ptr a
  | _, .scr _, .scr _, q => by unfold noLst at q; cases q
theorem RpA.hid {F : Hp} {p : Addr} {xs : List V} (hp : F p = some (.lst xs)) : ∀ {vs : List V} {ds : List D}, RpA K F vs ds → noLsts ds = true → RpA K (hid F p) vs ds
  | _, _, .nil, _ => .nil
  | _, d :: ds, .cons r t, q => by
    unfold noLsts at q
    rw [Bool.and_eq_true] at q
    exact .cons (Rp.hid hp r q.1) (RpA.hid hp t q.2)
end
theorem En.freezeL {H0 F0 F H : Hp} {σ : L2.St} (E : Cy.En K H0 F0 F H σ G) {i : Nat} {l : List D} (h : G[i]? = some (.own (.lst l))) : ∃ p xs, F p = none ∧ H p = some (.lst xs) ∧ Cy.En K H0 F0 (upd F p (.lst xs)) H σ (G.set i (.dat (.lst l))) := by
  obtain ⟨p, o, a, b, c, d, r⟩ := E.own i _ h
  cases r with
  | lst r =>
    rename_i xs
    refine ⟨p, xs, b, d, ?_⟩
    have ef : Ex F (upd F p (.lst xs)) := Ex.new b
    have hl : i < G.length := (List.getElem?_eq_some_iff.mp h).1
    refine ⟨fun j e q => ?_, fun j m q => ?_, fun x y lx ly p'' hxy h1 h2 h3 => ?_, E.e0, fun z o q => ?_, E.e1.trans ef, fun z o q => ?_, by rw [List.length_set, E.len]⟩
    · by_cases hij : i = j
      · subst hij
        rw [List.getElem?_set_self hl] at q
        cases q
        exact ⟨_, a, .lst upd_same (r.mono ef)⟩
      · rw [List.getElem?_set_ne hij] at q
        obtain ⟨v, q1, q2⟩ := E.dat j e q
        exact ⟨v, q1, q2.mono ef⟩
    · by_cases hij : i = j
      · subst hij
        rw [List.getElem?_set_self hl] at q
        cases q
      · rw [List.getElem?_set_ne hij] at q
        obtain ⟨p2, xs2, a2, b2, c2, d2, r2⟩ := E.own j m q
        have hne : p2 ≠ p := fun z => by
          subst z
          exact E.dis i j _ m p2 hij h q a a2
        exact ⟨p2, xs2, a2, by rw [upd_ne hne]; exact b2, c2, d2, r2.mono ef⟩
    · have nx : i ≠ x := fun z => by
        subst z
        rw [List.getElem?_set_self hl] at h1
        cases h1
      have ny : i ≠ y := fun z => by
        subst z
        rw [List.getElem?_set_self hl] at h2
        cases h2
      rw [List.getElem?_set_ne nx] at h1
      rw [List.getElem?_set_ne ny] at h2
      exact E.dis x y lx ly p'' hxy h1 h2 h3
    · by_cases hz : z = p
      · subst hz
        rw [upd_same] at q
        cases q
        exact d
      · rw [upd_ne hz] at q
        exact E.ef z o q
    · by_cases hz : z = p
      · subst hz
        exact .inr c
      · rw [upd_ne hz] at q
        exact E.nf z o q
theorem e_look {i : Nat} {l : List D} (h : G[i]? = some (.own (.lst l))) (hv : EvD K te (G.set i (.dat (.lst l))) d) (hd : noLst d = true) : EvD K te G d := .mk fun {H0 F0 F H σ} E Q q => by
  obtain ⟨p, xs, hF, hH, E1⟩ := E.freezeL h
  refine hv E1 Q fun v F2 H2 E2 f2 g2 n2 r2 => ?_
  have hp2 : F2 p = some (.lst xs) := f2 _ _ upd_same
  have k1 : Ex F (hid F2 p) := fun a o y => by
    have hne : a ≠ p := fun z => by
      subst z
      rw [hF] at y
      cases y
    rw [hid_ne hne]
    exact f2 a o (by rw [upd_ne hne]; exact y)
  have k2 : Ex (hid F2 p) H2 := fun a o y => by
    by_cases hne : a = p
    · subst hne
      unfold hid at y
      rw [if_pos rfl] at y
      cases y
    · rw [hid_ne hne] at y
      exact E2.ef a o y
  have k3 : Nw F (hid F2 p) H := fun a o y => by
    by_cases hne : a = p
    · subst hne
      unfold hid at y
      rw [if_pos rfl] at y
      cases y
    · rw [hid_ne hne] at y
      rcases n2 a o y with z | z
      · rw [upd_ne hne] at z
        exact .inl z
      · exact .inr z
  exact q v (hid F2 p) H2 (E.grow k1 g2 k2 k3) k1 g2 k3 (Rp.hid hp2 r2 hd)
/-- x.append(y.pop(j)) -/
theorem st_appPop {i k : Nat} {l m : List D} {j : Nat} (hik : i ≠ k) (h1 : G[i]? = some (.own (.lst l))) (h2 : G[k]? = some (.own (.lst m))) (he : EvD K tx G (.int (j : Int))) (hj : m[j]? = some d) (hz : l.length < 100000) (hm : m.length < 100000) :
    StD K (tDrop (tBM K "list" rAppend (tVar i) (tCons (tBM K "list" rPopAt (tVar k) (tCons tx tNil)) tNil))) G (.nx ((G.set k (.own (.lst (m.eraseIdx j)))).set i (.own (.lst (l ++ [d]))))) := .mk fun {H0 F0 F H σ E} En p => by
  unfold tDrop tBM
  refine e_own h1 En fun q xs hq hH hF hr => ⟨Or.inl ⟨rfl, xs, sq_of hH⟩, ?_⟩
  unfold tCons
  refine e_own h2 En fun q2 ys hq2 hH2 hF2 hr2 => ⟨Or.inl ⟨rfl, ys, sq_of hH2⟩, ?_⟩
  refine he En _ fun w F1 H1 E1 f1 g1 n1 r1 => ?_
  cases r1
  show rPopAt _ _ _ _
  obtain ⟨y, hy, ry⟩ := hr2.get hj
  have hjl : j < ys.length := (List.getElem?_eq_some_iff.mp hy).1
  have hlen := hr2.length
  have hne : q ≠ q2 := fun z => by
    subst z
    exact En.dis i k _ _ q hik h1 h2 hq hq2
  have hseq : seqIndex? (j : Int) ys.length = some j := by
    unfold seqIndex?
    simp
    omega
  refine ⟨q2, ys, (j : Int), j, y, rfl, rfl, g1 _ _ hH2, by omega, by omega, hseq, hy, ?_⟩
  have E2 := E1.mut h2 hq2 (.lst ((hr2.mono f1).erase j))
  have h1' : (G.set k (.own (.lst (m.eraseIdx j))))[i]? = some (.own (.lst l)) := by
    rw [List.getElem?_set_ne (fun z => hik z.symm)]
    exact h1
  refine ⟨q, xs, y, rfl, rfl, by rw [upd_ne hne]; exact g1 _ _ hH, sz_lt (by rw [hr.length]; exact hz), ?_⟩
  exact p σ F1 _ (E2.mut h1' hq (.lst ((hr.mono f1).app (.cons (ry.mono f1) .nil)))) f1
/-- tuple(list) -/
def rTupOf (K : PySem.W.Frag) : List V → Hp → VK → Prop := fun xs H Q => ∃ p ys, xs = [.ref p] ∧ ((SqL K H p ys ∧ ∀ l, H l = none → Q (.ref l) (upd H l (.tup ys))) ∨ (SqT K H p ys ∧ Q (.ref p) H))
theorem call_gTuple {X : Cx} : CallR X (.type "tuple") (rTupOf X.K) := call_tuple_of
theorem n_tupL {l : List D} : OpN K (rTupOf K) [.lst l] (.tup l) := .mk fun {F H vs} e r Q q => by
  obtain ⟨v, rfl, r1⟩ := rpa1 r
  cases r1 with
  | lst h1 s1 =>
    rename_i xs
    refine ⟨_, _, rfl, Or.inl ⟨sq_of (e _ _ h1), fun p hp => ?_⟩⟩
    have ef : Ex F (upd F p (.tup xs)) := Ex.new (ex_none e hp)
    exact q _ (upd F p (.tup xs)) _ ef (ex_upd_both e) (Ex.new hp) (nw_upd hp (Nw.refl _ _)) (.tup upd_same (s1.mono ef))
/-- list(range(a, b)) -/
theorem rg_1 {n : Int} (h : EvD K ta G (.int n)) : RgD K (tRg1 ta) G 0 n := .mk fun {H0 F0 F H σ} E Q q => h E _ fun v F1 H1 E1 f1 g1 n1 r1 => by
  cases r1
  exact ⟨n, rfl, q F1 H1 E1 f1 g1 n1⟩
theorem rg_2 {a b : Int} (h1 : EvD K ta G (.int a)) (h2 : EvD K tb G (.int b)) : RgD K (tRg2 ta tb) G a b := .mk fun {H0 F0 F H σ} E Q q => h1 E _ fun v F1 H1 E1 f1 g1 n1 r1 => h2 E1 _ fun w F2 H2 E2 f2 g2 n2 r2 => by
  cases r1
  cases r2
  exact ⟨a, b, rfl, rfl, q F2 H2 E2 (f1.trans f2) (g1.trans g2) (n1.trans n2 g1)⟩
theorem o_listRg {tr : L2.St → Hp → (Int → Int → Hp → Prop) → Prop} {a b : Int} (h : RgD K tr G a b) (hn : RgOk a b) : EvO K (tLstRg tr) G (rngD a (b - a).toNat) := .mk fun {H0 F0 F H σ} E Q q => h E _ fun F1 H1 E1 f1 g1 n1 => ⟨hn, fun p hp => by
  have hr : RpA K F1 (rgV a b) (rngD a (b - a).toNat) := by
    unfold rgV rngD
    have : ∀ l : List Nat, RpA K F1 (l.map fun (i : Nat) => V.int (a + (i : Nat))) (l.map fun (i : Nat) => D.int (a + (i : Int))) := by
      intro l
      induction l with
      | nil => exact .nil
      | cons x l ih => exact .cons (.int _) ih
    exact this _
  exact q p _ F1 _ (E1.grow (Ex.refl _) (Ex.new hp) (E1.ef.trans (Ex.new hp)) (Nw.refl _ _)) f1 (g1.trans (Ex.new hp)) n1 (ex_none g1 hp) (ex_none E1.ef hp) upd_same hr⟩
/-- xs[::-1] -/
theorem o_revL {l : List D} (h : EvD K te G (.lst l)) : EvO K (tRevL K te) G l.reverse := .mk fun {H0 F0 F H σ} E Q q => h E _ fun v F1 H1 E1 f1 g1 n1 r1 => by
  cases r1 with
  | lst h1 s1 => exact ⟨_, _, rfl, sq_of (E1.ef _ _ h1), fun p hp => q p _ F1 _ (E1.grow (Ex.refl _) (Ex.new hp) (E1.ef.trans (Ex.new hp)) (Nw.refl _ _)) f1 (g1.trans (Ex.new hp)) n1 (ex_none g1 hp) (ex_none E1.ef hp) upd_same s1.rev⟩
theorem n_intB {x : Bool} : OpN K gInt [.bl x] (.int (if x then 1 else 0)) := opn_l (op1_v fun {F H vs} e r => by
  obtain ⟨v, rfl, r1⟩ := rpa1 r
  cases r1
  exact ⟨.int _, .int _, fun Q q => Or.inr ⟨x, rfl, q⟩⟩)
/-- two lists handed back in a tuple -/
theorem st_ret2 {i j : Nat} {l m : List D} (hij : i ≠ j) (h1 : G[i]? = some (.own (.lst l))) (h2 : G[j]? = some (.own (.lst m))) : StD K (tRet (tTup (tCons (tVar i) (tCons (tVar j) tNil)))) G (.ro2 l m) := .mk fun {H0 F0 F H σ E} En p => by
  obtain ⟨q1, o1, a1, b1, c1, d1, r1⟩ := En.own i _ h1
  obtain ⟨q2, o2, a2, b2, c2, d2, r2⟩ := En.own j _ h2
  cases r1 with
  | lst r1 =>
    cases r2 with
    | lst r2 =>
      have hne : q1 ≠ q2 := fun z => by
        subst z
        exact En.dis i j _ _ q1 hij h1 h2 a1 a2
      refine ⟨_, a1, _, a2, (by show 2 ≤ sizeLine; decide), fun t ht => ?_⟩
      have en : Ex H (upd H t (.tup [.ref q1, .ref q2])) := Ex.new ht
      exact p t q1 _ q2 _ F _ ⟨En.e0.trans en, En.ef.trans en, En.e1, En.nf⟩ upd_same hne c1 b1 (en _ _ d1) r1 c2 b2 (en _ _ d2) r2
def spO2 (K : PySem.W.Frag) (R : List D → List D → List D → Prop) : Sp := fun vs H Q _ => ∃ F ds l m, Ex F H ∧ RpA K F vs ds ∧ R ds l m ∧ ∀ t p xs q ys F' H', Ro H F F' H' → H' t = some (.tup [.ref p, .ref q]) → p ≠ q → H p = none → F' p = none → H' p = some (.lst xs) → RpA K F' xs l → H q = none → F' q = none → H' q = some (.lst ys) → RpA K F' ys m → Q (.ref t) H'
theorem spO2_len {R : List D → List D → List D → Prop} {vs : List V} {H : Hp} {Q : VK} {E : XK} {n : Nat} (hR : ∀ ds l m, R ds l m → ds.length = n) (h : spO2 K R vs H Q E) : vs.length = n := by
  obtain ⟨F, ds, l, m, e, r, h1, _⟩ := h
  rw [r.length]
  exact hR ds l m h1
theorem body_O2 {N : List Str} {R : List D → List D → List D → Prop} {vs : List V} {H : Hp} {Q : VK} {E : XK} {t : TS} (h : spO2 K R vs H Q E) (hn : ∀ ds l m, R ds l m → ds.length ≤ N.length)
    (hb : ∀ ds l m, R ds l m → StD K t (args N.length ds) (.ro2 l m)) : t { nx := fun _ H' => Q .non H', rt := Q } (start N vs) H := by
  obtain ⟨F, ds, l, m, e, r, hR, q⟩ := h
  exact hb ds l m hR (start_en e r (hn ds l m hR)) q
/-- x, y = f(..) of such -/
theorem st_asg2 {i j : Nat} {R : List D → List D → List D → Prop} {E : XK} {ta : TA} {ds l m : List D} (hij : i ≠ j) (h : EvS K ta G ds) (hR : R ds l m) : StD K (tAsg (tCall (spO2 K R) [] E ta) (gTup K 2 (gCons (gName i) (gCons (gName j) gNil)))) G (.nx ((G.set i (.own (.lst l))).set j (.own (.lst m)))) := .mk fun {H0 F0 F H σ Ed} En p =>
  h En _ fun vs F1 H1 E1 f1 g1 n1 r1 => by
    refine ⟨F1, ds, l, m, E1.ef, by rw [List.append_nil]; exact r1, hR, fun t p1 xs q1 ys F2 H2 ro ht hne hp0 hpF hpH rx hq0 hqF hqH ry => ?_⟩
    have E2 := E1.grow ro.e1 ro.e0 ro.ef ro.nf
    refine ⟨t, _, rfl, Or.inl (Or.inl ht), rfl, _, _, rfl, _, _, rfl, rfl, ?_⟩
    have nslot : ∀ (a : Addr), H1 a = none → ∀ (k : Nat) (lk : Ow), G[k]? = some (.own lk) → σ[k]? ≠ some (some (.ref a)) := fun a ha k lk hk hs => by
      obtain ⟨p2, o2, a2, b2, c2, d2, r2⟩ := E1.own k lk hk
      rw [a2] at hs
      cases hs
      rw [ha] at d2
      cases d2
    have E3 := E2.setO (i := i) hpF (ex_none E1.e0 hp0) hpH (.lst rx) (fun k lk hk _ => nslot p1 hp0 k lk hk)
    have E4 := E3.setO (i := j) hqF (ex_none E1.e0 hq0) hqH (.lst ry) (fun k lk hk hjk => by
      by_cases hik : i = k
      · subst hik
        intro hs
        have hl : i < σ.length := by
          have := (List.getElem?_eq_some_iff.mp hs).1
          rw [List.length_set] at this
          exact this
        rw [List.getElem?_set_self hl] at hs
        cases hs
        exact hne rfl
      · rw [List.getElem?_set_ne hik] at hk ⊢
        exact nslot q1 hq0 k lk hk)
    exact p _ F2 H2 E4 (f1.trans ro.e1)
end
/-! comparing with a script -/
theorem ok_scr {ns : List Int} : okEq (.scr ns) = true := by
  have hall : ∀ l : List Int, PyData.canLayAll0 (l.map PyData.int) = true ∧ PyData.depthAll (l.map PyData.int) = 0 := by
    intro l
    induction l with
    | nil => exact ⟨by unfold PyData.canLayAll0; rfl, by unfold PyData.depthAll; rfl⟩
    | cons x l ih =>
      refine ⟨?_, ?_⟩
      · rw [List.map_cons]
        unfold PyData.canLayAll0
        rw [ih.1]
        unfold PyData.canLay0
        rfl
      · rw [List.map_cons]
        unfold PyData.depthAll
        rw [ih.2]
        unfold PyData.depth
        rfl
  have h1 : plain (.scr ns) = true := by unfold plain; rfl
  have h2 : SeqAt.shaped (toP (.scr ns)) = true := by
    unfold toP SeqAt.shaped PyData.canLay0 PyData.depth
    rw [(hall ns).1, (hall ns).2]
    decide
  unfold okEq
  rw [h1, h2]
  rfl
theorem ok_nil : okEq (.lst []) = true := ok_eq (n := 1) (by unfold okD; rfl) (by decide)
theorem eqD_scr (ns : List Int) : eqD (.scr ns) (.lst []) = ns.isEmpty := by
  unfold eqD
  cases ns with
  | nil => simp only [toP, toPs, List.map_nil, PyData.eqv, PyData.eqvAll, List.isEmpty_nil]
  | cons x r => simp only [toP, toPs, List.map_cons, PyData.eqv, PyData.eqvAll, List.isEmpty_cons]
/-! equal data -/
mutual
theorem eqv_self : ∀ (n : Nat) (d : D), okD n d = true → PyData.eqv (toP d) (toP d) = true
  | _, .non, _ => by simp only [toP, PyData.eqv]
  | _, .bl b, _ => by simp only [toP, PyData.eqv, beq_self_eq_true]
  | _, .int i, _ => by simp only [toP, PyData.eqv, beq_self_eq_true]
  | _, .str s, _ => by simp only [toP, PyData.eqv]; exact beq_iff_eq.mpr rfl
  | 0, .lst _, h => by unfold okD at h; cases h
  | 0, .tup _, h => by unfold okD at h; cases h
  | n + 1, .lst xs, h => by
    simp only [toP, PyData.eqv]
    exact eqvs_self n xs (by unfold okD at h; exact h)
  | n + 1, .tup xs, h => by
    simp only [toP, PyData.eqv]
    exact eqvs_self n xs (by unfold okD at h; exact h)
  | 0, .dic _, h => by unfold okD at h; cases h
  | n + 1, .dic _, h => by unfold okD at h; cases h
  | 0, .obj _ _, h => by unfold okD at h; cases h
  | n + 1, .obj _ _, h => by unfold okD at h; cases h
  | 0, .exc _, h => by unfold okD at h; cases h
  | n + 1, .exc _, h => by unfold okD at h; cases h
  | 0, .ptr _, h => by unfold okD at h; cases h
  | n + 1, .ptr _, h => by unfold okD at h; cases h
  | 0, .scr _, h => by unfold okD at h; cases h
  | n + 1, .scr _, h => by unfold okD at h; cases h
theorem eqvs_self : ∀ (n : Nat) (xs : List D), xs.all (okD n) = true → PyData.eqvAll (toPs xs) (toPs xs) = true
  | _, [], _ => by simp only [toPs, PyData.eqvAll]
  | n, x :: xs, h => by
    rw [List.all_cons, Bool.and_eq_true] at h
    simp only [toPs, PyData.eqvAll]
    rw [eqv_self n x h.1, eqvs_self n xs h.2]
    rfl
end
theorem eqD_self {n : Nat} {d : D} (h : okD n d = true) : eqD d d = true := eqv_self n d h
/-- what is equal, compared: x == y, x != y -/
theorem d_same {K : PySem.W.Frag} {n : Nat} {d : D} (h : okD n d = true) (hn : n ≤ 64) : Op2 K (gEq K) d d (.bl true) := by
  have := d_eqD (K := K) (ok_eq h hn) (ok_eq h hn)
  rw [eqD_self h] at this
  exact this
theorem d_sameN {K : PySem.W.Frag} {n : Nat} {d : D} (h : okD n d = true) (hn : n ≤ 64) : Op2 K (gNe K) d d (.bl false) := by
  have := d_neD (K := K) (ok_eq h hn) (ok_eq h hn)
  rw [eqD_self h] at this
  exact this
theorem ok_ints {n : Nat} (ns : List Int) : okD (n + 1) (.lst (ns.map D.int)) = true := by
  unfold okD
  refine List.all_eq_true.mpr fun d hd => ?_
  obtain ⟨i, _, rfl⟩ := List.mem_map.mp hd
  cases n <;> (unfold okD; rfl)
theorem ok_bls {n : Nat} (ns : List Bool) : okD (n + 1) (.lst (ns.map D.bl)) = true := by
  unfold okD
  refine List.all_eq_true.mpr fun d hd => ?_
  obtain ⟨i, _, rfl⟩ := List.mem_map.mp hd
  cases n <;> (unfold okD; rfl)
end Cy

set_option Elab.async false
set_option linter.all false
set_option maxRecDepth 100000
set_option maxHeartbeats 2000000
namespace Cy
open PySem PySem.Spec PyProof.Rows L2 Evl
theorem exK_ok {P : Program} {w : World} {H : Hp} {h : Heap} {a : Addr} {cls : Value} {d : Option Addr} {oe : Obj} {vs : Array Value} (e : h.get? a = some oe) (z : Zc cls d oe) (hd : oe.data = .fields vs) : ObjOk P w H h a (ExK cls d a) :=
  ⟨⟨oe, vs, e, z, hd⟩, ⟨oe, e⟩, fun h1 h2 ⟨o, vs, q, z, y⟩ k => ⟨o, vs, k o q, z, y⟩⟩
section
variable {X : Cx} {pins : List (Addr × Obj)} {σ : L2.St} {H : Hp} {s : Shared}
/-- what stands in the heap, wasn't there at the entry and isn't tracked, may be tracked, if it isn't pinned -/
theorem inv_track {a : Addr} {o : HO} (I : Inv X pins σ H s) (h0 : X.s_0.heap.get? a = none) (hn : H a = none) (nL : a ≠ X.env.locals) (nC : ∀ x c, X.env.cells.lookup x = some c → a ≠ c) (nP : ∀ p ∈ X.pn ++ pins, p.1 ≠ a) (new : ObjOk X.prog X.w (upd H a o) s.heap a o) :
    Inv X pins σ (upd H a o) s := by
  have off : ∀ b u, X.s_0.heap.get? b = some u → b ≠ a := fun b u q z => by
    rw [z, h0] at q
    cases q
  refine ⟨I.ok, I.os, I.bare, ⟨I.base.keep, I.base.slot, fun b u q n x => ?_, I.base.there, fun b xs q => ?_, fun b u xs q => ?_, fun b ps q => ?_⟩, I.loc, I.cell, ?_, fun x c q => ?_, fun p hp => ?_, ?_, I.len⟩
  · rw [upd_ne (off b u q)]
    exact I.base.free b u q n x
  · have := I.base.tups b xs q
    rw [upd_ne (ne_of_none this hn)]
    exact this
  · have := I.base.frzs b u xs q
    rw [upd_ne (ne_of_none this hn)]
    exact this
  · obtain ⟨more, e⟩ := I.base.tbls b ps q
    exact ⟨more, by rw [upd_ne (ne_of_none e hn)]; exact e⟩
  · rw [upd_ne (Ne.symm nL)]
    exact I.free
  · rw [upd_ne (Ne.symm (nC x c q))]
    exact I.freeC x c q
  · obtain ⟨g, n, ne, nf, v⟩ := I.pin p hp
    exact ⟨g, by rw [upd_ne (nP p hp)]; exact n, ne, nf, v⟩
  · exact HOk.laidN I.hok (fun _ _ q => q) hn new
/-- a pin more, a pin less -/
theorem inv_pins {X' : Cx} {pins' : List (Addr × Obj)} (I : Inv X pins σ H s) (e : X' = { X with pn := X'.pn, A := X'.A, calm := X'.calm, xe := X'.xe }) (ok : X'.Ok) (hp : ∀ p ∈ X'.pn ++ pins', p ∈ X.pn ++ pins) : Inv X' pins' σ H s := by
  cases X'
  cases e
  exact ⟨ok, I.os, I.bare, I.base, I.loc, I.cell, I.free, I.freeC, fun p q => I.pin p (hp p q), I.hok, I.len⟩
end
/-- what the clause 'except x as n' wishes where the exception is kept -/
def wKept (K : PySem.W.Frag) (c : Value) (i : Nat) (ts : Addr → Value → Option Addr → TS) (Wout : WX) (D : Ends) : WX := fun cls d σ H =>
  ∃ b, PySem.W.exmOne K cls c = some b ∧
    (b = true → ∀ a, H a = none → ts a cls d { nx := fun σ' H' => D.nx (σ'.set i none) (upd H' a (ExK cls d a)), rt := fun v H' => D.rt v (upd H' a (ExK cls d a)), bk := fun σ' H' => D.bk (σ'.set i none) (upd H' a (ExK cls d a)), ct := fun σ' H' => D.ct (σ'.set i none) (upd H' a (ExK cls d a)) } (σ.set i (some (.ref a))) H) ∧
    (b = false → Wout cls d σ H)
section
variable {X : Cx} {x n : Str} {c : Value} {i : Nat} {body suite : List Stmt} {b₀ : Stmt} {np pos pos' : Pos} {tb : WX → TS} {ts : Addr → Value → Option Addr → TS} {Wout : WX}
/-- behind the suite: the name goes, the exception stays, tracked -/
theorem kept_end {a : Addr} {oe : Obj} {vs : Array Value} {cls : Value} {d : Option Addr} {pins : List (Addr × Obj)} {σ : L2.St} {H : Hp} {s : Shared} {Q : Shared → Prop} (I : Inv (X.suite a ((a, oe) :: (X.pn ++ pins))) [] σ H s) (ok : X.Ok) (hN : X.N.Nodup) (hi : X.N[i]? = some n) (hln : X.env.kindOf n = some .local)
    (h0 : X.s_0.heap.get? a = none) (nC : ∀ x c, X.env.cells.lookup x = some c → a ≠ c) (nP : ∀ p ∈ X.pn ++ pins, p.1 ≠ a) (z : Zc cls d oe) (hd : oe.data = .fields vs) (hq : ∀ s', Inv X pins (σ.set i none) (upd H a (ExK cls d a)) s' → Q s') :
    wpAny (model X.prog X.w) X.A (do bindName X.env n .none; unbindBehindTheSuite X.env n pos') (fun _ s' => Q s') X.xe s := by
  have J : Inv X ((a, oe) :: pins) σ H s := inv_pins I rfl ok fun p hp => by
    show p ∈ (a, oe) :: (X.pn ++ pins) ++ []
    rw [List.append_nil]
    rcases List.mem_append.mp hp with q | q
    · exact List.mem_cons_of_mem _ (List.mem_append_left _ q)
    · rcases List.mem_cons.mp q with q | q
      · rw [q]
        exact List.mem_cons_self
      · exact List.mem_cons_of_mem _ (List.mem_append_right _ q)
  refine gone_ok J hN hi hln fun s' J' => hq s' ?_
  obtain ⟨g, hn, nL, _, _⟩ := J'.pin (a, oe) (List.mem_append_right _ List.mem_cons_self)
  have J2 : Inv X pins (σ.set i none) H s' := inv_pins J' rfl ok fun p hp => by
    rcases List.mem_append.mp hp with q | q
    · exact List.mem_append_left _ q
    · exact List.mem_append_right _ (List.mem_cons_of_mem _ q)
  exact inv_track J2 h0 hn nL nC nP (exK_ok g z hd)
theorem ps_try_kept (hs : X.stack = X.env :: X.outer) (hf : X.env.frame = some X.env.locals) (hN : X.N.Nodup) (hi : X.N[i]? = some n) (hln : X.env.kindOf n = some .local) (hc : Names X x c) (tk : Takes X Wout) (hcell : X.env.cells = []) (hex : X.ex = [])
    (hb : ∀ (W : WX) (pn : List (Addr × Obj)) (xe : Value → Shared → Prop), Takes (X.tr pn xe) W → PassesOwn (model X.prog X.w) X.A X.env xe → PSs (X.tr pn xe) body (tb W))
    (hsu : ∀ (a : Addr) (oe : Obj) (cls : Value) (d : Option Addr) (pn : List (Addr × Obj)), Zc cls d oe → (∃ vs, oe.data = .fields vs) → PSs (X.suite a ((a, oe) :: pn)) (b₀ :: suite) (ts a cls d)) :
    PS X (.Try body [.ExceptHandler (some (.Name x np)) (some n) (b₀ :: suite) pos'] [] [] pos) (fun D σ H => tb (wKept X.K c i ts Wout D) D σ H) := by
  refine ⟨fun pins s σ H D I h => wpAny_Try_except ?_⟩
  have ok := I.ok
  have hfr : X.A.frames = some (X.env :: X.outer) := by rw [ok.frames, hs]
  refine wpAny_mono ((hb (wKept X.K c i ts Wout D) (X.pn ++ pins) _ (fun u s' xx => ?_) PassesOwn.looking).run [] s σ H D (I.toTry _) h) (fun f s1 hsp => ?_) (fun e s1 he => he)
  rotate_left
  · cases f with
    | next =>
      obtain ⟨σ', H', J', q⟩ := hsp
      exact wpAny_execs_nil ⟨σ', H', J'.ofTry ok, q⟩
    | brk =>
      obtain ⟨σ', H', J', q⟩ := hsp
      exact ⟨σ', H', J'.ofTry ok, q⟩
    | cont =>
      obtain ⟨σ', H', J', q⟩ := hsp
      exact ⟨σ', H', J'.ofTry ok, q⟩
    | ret u =>
      obtain ⟨v, σ', H', J', r, q⟩ := hsp
      exact ⟨v, σ', H', J'.ofTry ok, r, q⟩
  obtain ⟨a, B, sI, pins', σ', H', cls, d, rfl, J', nb, up, sky, na, os, ag, b, hb1, hyes, hno⟩ := xx
  have J : Inv X pins σ' H' sI := J'.ofTry ok
  have sky' : Sky B (X.env :: X.outer) a (Zc cls d) X.env.locals s'.heap := by rw [← hs]; exact sky
  refine Sky.land Zc.steady hfr hf sky' fun h3 fl3 up3 => ?_
  obtain ⟨oe3, vs3, he3, hz3, hd3⟩ := fl3.there
  have nfr : a ∉ frs (X.env :: X.outer) := fun hm => by
    obtain ⟨_, o', e', hnf⟩ := fl3.2.2.1.mem hm
    rw [he3] at e'
    cases e'
    exact hnf _ hd3
  have nL : a ≠ X.env.locals := fun z => nfr (List.mem_filterMap.mpr ⟨X.env, List.mem_cons_self, by rw [hf, z]⟩)
  have nF : a ∉ X.fs := fun hm => by
    obtain ⟨e, he, q⟩ := List.mem_filterMap.mp hm
    exact nfr (List.mem_filterMap.mpr ⟨e, List.mem_cons_of_mem _ he, q⟩)
  -- it is new
  have gone : sI.heap.get? a = none := by
    cases q : sI.heap.get? a with
    | none => rfl
    | some o =>
      have := nb a o q (by
        show a ∉ frs X.stack
        rw [hs]
        exact nfr)
      rw [fl3.2.1] at this
      cases this
  have h0 : X.s_0.heap.get? a = none := by
    cases q : X.s_0.heap.get? a with
    | none => rfl
    | some o =>
      obtain ⟨o', e⟩ := J.base.there a o q (by
        rw [hex]
        exact fun z => nomatch z)
      rw [gone] at e
      cases e
  have nP : ∀ p ∈ X.pn ++ pins, p.1 ≠ a := fun p hp z => by
    obtain ⟨g, _⟩ := J.pin p hp
    rw [z, gone] at g
    cases g
  have nC : ∀ x c, X.env.cells.lookup x = some c → a ≠ c := fun x c e => by
    rw [hcell] at e
    cases e
  have J3 : Inv X pins σ' H' { s' with heap := h3 } := J.landed nb fl3.1 (up.trans up3) os ag
  have S3 := J3.suite he3 hd3 na nL nF
  refine wpAny_handleBy_cons (codeAny_handlers_test ?_) (by intro q; cases q)
  have LT : PySem.W.Looks (model X.prog X.w) h3 (typeOf (.ref a)) cls := fun A Q E s k q => wpAny_typeOf_ref (k _ _ he3) (by rw [hz3.1]; exact q)
  have test : ∀ {Q : Value → Shared → Prop} {E : Value → Shared → Prop}, Q c { s' with heap := h3 } → wpAny (model X.prog X.w) (X.A.mark (some (.ref a))) (eval (.Name x np) X.env) Q E { s' with heap := h3 } := fun {Q E} q => by
    obtain ⟨hg, hdbg, hm | ⟨hm, hv, hnn⟩⟩ := hc
    · exact ld_glob (X := X.suite a ((a, oe3) :: (X.pn ++ pins))) S3 hg hm q hdbg
    · exact ld_blt (X := X.suite a ((a, oe3) :: (X.pn ++ pins))) S3 hg hm hv q hnn hdbg
  refine test ((PySem.W.exm_one (M := model X.prog X.w) J3.kIn LT hb1).here ?_)
  cases b with
  | false =>
    refine wpAny_handleBy_nil ?_
    obtain ⟨_, _, _, oe, vs, T, _, _, he, _, hd, h1, _⟩ := id fl3
    unfold PySem.passOn
    refine wpAny_bind (wpAny_field he hd h1 ?_)
    rw [if_neg (show ¬ ((Value.ref T == Value.none) = true) from by simp)]
    have fin : wpAny (model X.prog X.w) X.A (setFlight (.ref a) X.env.frame) (fun _ s4 => wpAny (model X.prog X.w) X.A (throw (.ref a) : Sem Flow) (SP X pins D) X.xe s4) X.xe { s' with heap := h3 } := by
      rw [hf]
      refine HandSPX.setFlight_upZ fl3 fun h4 hh4 up4 => wpAny_throw (tk _ _ ?_)
      exact ⟨a, B, sI, pins, σ', H', cls, d, rfl, J, nb, (up.trans up3).trans up4, .inr (.inr (by rw [hs]; exact hh4)), na, os, ag, hno rfl⟩
    first
      | exact wpAny_bind (wpAny_pure (wpAny_bind fin))
      | exact wpAny_bind fin
  | true =>
    refine codeAny_handlers_suite_as (HandSPX.lands_againZ fl3 fun h4 fl4 up4 => ?_)
    have J4 : Inv X pins σ' H' { s' with heap := h4 } := J.landed nb fl4.1 ((up.trans up3).trans up4) os ag
    obtain ⟨oe4, vs4, he4, hz4, hd4⟩ := fl4.there
    refine store_ok (X := X.suite a ((a, oe4) :: (X.pn ++ pins))) (v := .ref a) (J4.suite he4 hd4 na nL nF) hN hi (.inl hln) rfl (fun s5 S5 => ?_) (.inr hln)
    refine wpAny_mono ((hsu a oe4 cls d (X.pn ++ pins) hz4 ⟨_, hd4⟩).run [] s5 _ H' _ S5 (hyes rfl a na)) (fun f s6 hsp => ?_) (fun _ _ z => False.elim z)
    cases f with
    | next =>
      obtain ⟨σ6, H6, S6, q6⟩ := hsp
      exact kept_end S6 ok hN hi hln h0 nC nP hz4 hd4 fun s7 J7 => ⟨_, _, J7, q6⟩
    | brk =>
      obtain ⟨σ6, H6, S6, q6⟩ := hsp
      exact kept_end S6 ok hN hi hln h0 nC nP hz4 hd4 fun s7 J7 => ⟨_, _, J7, q6⟩
    | cont =>
      obtain ⟨σ6, H6, S6, q6⟩ := hsp
      exact kept_end S6 ok hN hi hln h0 nC nP hz4 hd4 fun s7 J7 => ⟨_, _, J7, q6⟩
    | ret u =>
      obtain ⟨v6, σ6, H6, S6, r6, q6⟩ := hsp
      exact kept_end S6 ok hN hi hln h0 nC nP hz4 hd4 fun s7 J7 => ⟨_, _, _, J7, r6, q6⟩
end
/-! isinstance of an exception that is kept -/
def rIsK (K : PySem.W.Frag) : List V → Hp → VK → Prop := fun xs H Q => ∃ (a D : Addr) (c : V) (cv : Value) (b : Bool), xs = [.ref a, c] ∧ H a = some (ExK (.ref D) none a) ∧ ExcC K D ∧ (∀ u, RelV c u → u = cv) ∧ PySem.W.kitOne K (.ref D) cv = some b ∧ Q (.bl b) H
theorem call_isK {X : Cx} : CallR X (.builtin "isinstance") (rIsK X.K) := by
  intro pins s σ H xs us Q I r h
  obtain ⟨a, D, c, cv, b, rfl, ha, C, hcv, e, q⟩ := h
  cases r with
  | cons rx rr =>
    cases rr with
    | cons rt rr =>
      cases rr
      cases rx
      have ec := hcv _ rt
      subst ec
      obtain ⟨⟨oe, vs, hget, hz, hv⟩, _⟩ := I.hok a _ ha
      have J : PySem.W.InstAt s.heap a oe D none := by
        obtain ⟨oc, od, oda, osl⟩ := oe
        obtain ⟨h1, h2⟩ := hz
        dsimp only at h1 h2 hv
        subst h1 h2 hv
        exact ⟨hget, rfl, rfl, trivial⟩
      exact PySem.W.kia_one (PySem.W.handS_kitx_exc C.hg C.hk C.hs C.hd C.ha C.hn C.ht C.hm) I.kIn J e (fun z => nomatch z) fun tk => ⟨.bl b, H, I.kept (t' := tk) fun _ _ z => z, rfl, q⟩
/-! C(..) that may raise, at the slots where it stands -/
section
variable {X : Cx} {CX : CXT} {k : Nat} {f C : Addr} {fd : FuncData} {ps : List Str} {ds : List Value} {dvs : List V} {sp : Sp} {E : L2.St → XK} {x : Str} {p pos : Pos} {e : Expr} {es : List Expr} {t : TA}
def tMakeS (C : Addr) (sp : Sp) (E : L2.St → XK) (t : TA) : TE := fun σ H Q => tMake C sp [] (E σ) t σ H Q
theorem pe_makeS (M : Mk X.K C f) (F : FnOk X.prog X.w X.K X.mg X.base CX k f fd ps sp) (hr : Room (k + 1) X.A) (hg : Gl X x) (hm : X.mg x = some (.ref C)) (hb : Binds X.K fd ps []) (hx : ∀ σ, PassesAt CX X σ (E σ)) (ha : PA X (e :: es) t)
    (hdb : (x == ("__debug__" : Str)) = false := by decide) (he : starEach (e :: es) X.env = (false, eval e X.env) :: starEach es X.env := by rfl) (hpl : (backTo pos (starEach es X.env)).any (·.1) = false := by rfl) :
    PE X (.Call (.Name x p) (e :: es) [] pos) (tMakeS C sp E t) := by
  refine ⟨fun pins s σ H Q I h => wpAny_Call_Name_kw (ld_glob I hg hm ?_ hdb)⟩
  refine PySem.W.callWith_K (h₀ := X.base) I.ok.mod.kin M.kp (thn (ha.run pos pins s σ H _ I h) fun us s1 ⟨vs, H1, I1, r, q⟩ => ⟨I1.kIn, ?_⟩) he hpl
  -- the object, then its __init__
  have q0 := q (s1.heap.objs.size + 1) s1.heap.objs.size (I1.hok.fresh (Nat.le_succ _)) (I1.hok.fresh (Nat.le_refl _)) (Nat.ne_of_lt (Nat.lt_succ_self _))
  rw [List.append_nil] at q0
  have I2 := Inv.made (C := C) I1
  have r2 : Vals (V.ref (s1.heap.objs.size + 1) :: vs) (Value.ref (s1.heap.objs.size + 1) :: us) := .cons rfl r
  have hl : (Value.ref (s1.heap.objs.size + 1) :: us).length = ps.length := by
    rw [← r2.length]
    exact F.len _ _ _ _ q0
  have b := hb _ (Value.ref (s1.heap.objs.size + 1) :: us) I2.kIn (by rw [List.append_nil]; exact hl)
  rw [List.append_nil] at b
  refine wpAny_call (make_map (f := f) I1.kIn M.makes M.init (beq_iff_eq.mp M.fn) (codeAny_mono (F.run _ X.stack _ _ _ _ _ _ _ (hr.make C us []) (I2.env0.make C us []) b r2 q0) fun r s' hq => ?_))
  cases r with
  | error u => exact hx σ pins _ _ u s' I2 hq
  | ok fl =>
    cases fl with
    | ret u =>
      obtain ⟨v, H', I3, rv, ev, q3⟩ := I2.after hq
      subst ev
      exact ⟨rv, ⟨V.ref (s1.heap.objs.size + 1), H', I3, rfl, q3⟩⟩
    | next => exact False.elim hq
    | brk => exact False.elim hq
    | cont => exact False.elim hq
end
end Cy
namespace Cy
open PySem L2 Evl
/-! promises of defs that may raise -/
inductive Res where
  | ok (d : D)
  | exc (C : Addr)
def Res.out (r : Res) (X : XK) : Out := match r with
  | .ok d => .rt d
  | .exc C => .ex C X
def spX (K : PySem.W.Frag) (R : List D → Res → Prop) : Sp := fun vs H Q E => ∃ F ds r, Ex F H ∧ RpA K F vs ds ∧ R ds r ∧ match r with
  | .ok d => ∀ v F' H', Ro H F F' H' → Rp K F' v d → Q v H'
  | .exc C => ∀ F' H', Ro H F F' H' → E (.ref C) none H'
/-- an __init__ that may raise -/
inductive ResI where
  | ok (fs : List (Str × D))
  | exc (C : Addr)
def spIX (K : PySem.W.Frag) (C : Addr) (R : List D → ResI → Prop) : Sp := fun vs H Q E => ∃ F H1 x dx ws ds r, vs = .ref x :: ws ∧ H = upd (upd H1 dx (.own x)) x (.ins C dx []) ∧ H1 x = none ∧ H1 dx = none ∧ dx ≠ x ∧ Ex F H1 ∧ RpA K F ws ds ∧ R ds r ∧ match r with
  | .ok fs => ∀ gs dx' F' H', Ro H1 F F' H' → F' x = none → H' x = some (.ins C dx' gs) → gs.map (fun p => p.1) = fs.map (fun p => p.1) → RpA K F' (gs.map fun p => p.2) (fs.map fun p => p.2) → Q .non H'
  | .exc D => ∀ F' H', Ro H1 F F' H' → E (.ref D) none H'
section
variable {K : PySem.W.Frag} {G G1 G2 : List Sl} {ta : TA} {te tx : TE} {t u tt : TT} {tu tw tz : TS} {d : D} {ds l : List D} {o : Out} {g : TG} {X : XK} {C : Addr}
theorem spX_len {R : List D → Res → Prop} {vs : List V} {H : Hp} {Q : VK} {E : XK} {n : Nat} (hR : ∀ ds d, R ds d → ds.length = n) (h : spX K R vs H Q E) : vs.length = n := by
  obtain ⟨F, ds, d, e, r, h1, _⟩ := h
  rw [r.length]
  exact hR ds d h1
theorem spIX_len {R : List D → ResI → Prop} {vs : List V} {H : Hp} {Q : VK} {E : XK} {n : Nat} (hR : ∀ ds d, R ds d → ds.length = n) (h : spIX K C R vs H Q E) : vs.length = n + 1 := by
  obtain ⟨F, H1, x, dx, ws, ds, fs, rfl, _, _, _, _, _, r, h1, _⟩ := h
  rw [List.length_cons, r.length, hR ds fs h1]
/-- a def's body -/
theorem body_X {N : List Str} {R : List D → Res → Prop} {vs : List V} {H : Hp} {Q : VK} {E : XK} {t : XK → TS} (h : spX K R vs H Q E) (hn : ∀ ds d, R ds d → ds.length ≤ N.length)
    (hb : ∀ ds r (E : XK), R ds r → StD K (t E) (args N.length ds) (r.out E)) : t E { nx := fun _ H' => Q .non H', rt := Q } (start N vs) H := by
  obtain ⟨F, ds, r, e, ra, hR, q⟩ := h
  have hs := hb ds r E hR
  cases r with
  | ok d => exact hs (start_en e ra (hn ds _ hR)) fun v F' H' ro r' => q v F' H' ro r'
  | exc C => exact hs (start_en e ra (hn ds _ hR)) fun F' H' ro => q F' H' ro
/-- raise C(text) -/
def tRaise (C : Addr) (X : XK) (ta : TE) : TS := fun _ σ H => ta σ H fun _ H' => X (.ref C) none H'
theorem st_raise (h : EvD K te G d) : StD K (tRaise C X te) G (.ex C X) := .mk fun {H0 F0 F H σ E} En p => h En _ fun v F1 H1 E1 f1 g1 n1 r1 => p F1 H1 E1.ro
def tRaise0 (C : Addr) (X : XK) : TS := fun _ _ H => X (.ref C) none H
theorem st_raise0 : StD K (tRaise0 C X) G (.ex C X) := .mk fun {H0 F0 F H σ E} En p => p F H En.ro
/-- a guard that fires -/
theorem st_fire (h : EvTt K t G true) (h2 : StD K tu G o) (ho : ∀ G, o ≠ .nx G) : StD K (tSeq (tIfS t tu tNext) tw) G o := st_stop (st_if h (fun _ => h2) (fun q => nomatch q)) ho
/-- a call that hands something back -/
theorem e_callX {R : List D → Res → Prop} (h : EvS K ta G ds) (hR : R ds (.ok d)) : EvD K (tCall (spX K R) [] X ta) G d := .mk fun {H0 F0 F H σ} En Q q =>
  h En _ fun vs F1 H1 E1 f1 g1 n1 r1 => by
    refine ⟨F1, ds, .ok d, E1.ef, by rw [List.append_nil]; exact r1, hR, fun v F2 H2 ro r2 => ?_⟩
    exact q v F2 H2 (E1.grow ro.e1 ro.e0 ro.ef ro.nf) (f1.trans ro.e1) (g1.trans ro.e0) (n1.trans ro.nf g1) r2
theorem Ro.back {H0 F0 F1 H1 F' H' : Hp} {σ : L2.St} (E : En K H0 F0 F1 H1 σ G) (ro : Ro H1 F1 F' H') : Ro H0 F0 F' H' := ⟨E.e0.trans ro.e0, ro.ef, E.e1.trans ro.e1, fun a o q => by
  rcases ro.nf a o q with z | z
  · exact E.nf a o z
  · exact .inr (ex_none E.e0 z)⟩
/-- a call that raises: what is done with what it would hand back isn't done -/
theorem x_call {R : List D → Res → Prop} (h : EvS K ta G ds) (hR : R ds (.exc C)) {H0 F0 F H : Hp} {σ : L2.St} (En : En K H0 F0 F H σ G) {Q : VK} (q : ∀ F' H', Ro H0 F0 F' H' → X (.ref C) none H') : tCall (spX K R) [] X ta σ H Q :=
  h En _ fun vs F1 H1 E1 f1 g1 n1 r1 => ⟨F1, ds, .exc C, E1.ef, by rw [List.append_nil]; exact r1, hR, fun F2 H2 ro => q F2 H2 (Ro.back E1 ro)⟩
theorem st_asgX {R : List D → Res → Prop} (h : EvS K ta G ds) (hR : R ds (.exc C)) : StD K (tAsg (tCall (spX K R) [] X ta) g) G (.ex C X) := .mk fun {H0 F0 F H σ E} En p => x_call h hR En p
theorem st_dropX {R : List D → Res → Prop} (h : EvS K ta G ds) (hR : R ds (.exc C)) : StD K (tDrop (tCall (spX K R) [] X ta)) G (.ex C X) := .mk fun {H0 F0 F H σ E} En p => x_call h hR En p
theorem st_retX {R : List D → Res → Prop} (h : EvS K ta G ds) (hR : R ds (.exc C)) : StD K (tRet (tCall (spX K R) [] X ta)) G (.ex C X) := .mk fun {H0 F0 F H σ E} En p => x_call h hR En p
theorem startI_en {N : List Str} {F H1 : Hp} {x dx C : Addr} {ws : List V} (hx : H1 x = none) (hdx : H1 dx = none) (hne : dx ≠ x) (e : Ex F H1) (r : RpA K F ws ds) (hl : ds.length + 1 ≤ N.length) :
    En K H1 F F (upd (upd H1 dx (.own x)) x (.ins C dx [])) (start N (.ref x :: ws)) (argsI N.length x C ds) := by
  have eH : Ex H1 (upd (upd H1 dx (.own x)) x (.ins C dx [])) := fun z o y => by
    rw [upd_ne (ne_of_none y hx), upd_ne (ne_of_none y hdx)]
    exact y
  have hst : ∀ (N : List Str) (vs : List V), start N vs = vs.map some ++ List.replicate (N.length - vs.length) none := fun N vs => by
    first | rfl | (unfold start; rfl)
  have hstart : start N (.ref x :: ws) = some (.ref x) :: start (N.drop 1) ws := by
    rw [hst, hst, List.length_drop]
    show some (V.ref x) :: (ws.map some ++ List.replicate (N.length - (ws.length + 1)) none) = some (V.ref x) :: (ws.map some ++ List.replicate (N.length - 1 - ws.length) none)
    congr 3
    omega
  have base := start_en (K := K) (N := N.drop 1) e r (by rw [List.length_drop]; omega)
  have hlen : (N.drop 1).length = N.length - 1 := List.length_drop
  rw [hstart]
  unfold argsI
  rw [← hlen]
  refine ⟨fun i d h => ?_, fun i w h => ?_, fun i j li lj p hij h1 h2 h3 => ?_, eH, e.trans eH, Ex.refl F, fun a o h => .inl h, ?_⟩
  · cases i with
    | zero => cases h
    | succ i => exact base.dat i d (by simpa using h)
  · cases i with
    | zero =>
      simp at h
      subst h
      exact ⟨x, _, rfl, ex_none e hx, hx, upd_same, .ins rfl .nil⟩
    | succ i =>
      obtain ⟨p, o, a1, b1, c1, d1, r1⟩ := base.own i w (by simpa using h)
      rw [c1] at d1
      cases d1
  · cases i with
    | zero =>
      cases j with
      | zero => exact absurd rfl hij
      | succ j =>
        obtain ⟨p2, o, a1, b1, c1, d1, r1⟩ := base.own j lj (by simpa using h2)
        rw [c1] at d1
        cases d1
    | succ i =>
      obtain ⟨p2, o, a1, b1, c1, d1, r1⟩ := base.own i li (by simpa using h1)
      rw [c1] at d1
      cases d1
  · rw [List.length_cons, List.length_cons, base.len]
/-- an __init__'s body -/
theorem body_IX {N : List Str} {R : List D → ResI → Prop} {vs : List V} {H : Hp} {Q : VK} {E : XK} {t : XK → TS} (h : spIX K C R vs H Q E) (hn : ∀ ds d, R ds d → ds.length + 1 ≤ N.length)
    (hok : ∀ x ds fs (E : XK), R ds (.ok fs) → ∃ G, G[0]? = some (.own (.ins x C fs)) ∧ StD K (t E) (argsI N.length x C ds) (.nx G))
    (hex : ∀ x ds D (E : XK), R ds (.exc D) → StD K (t E) (argsI N.length x C ds) (.ex D E)) : t E { nx := fun _ H' => Q .non H', rt := Q } (start N vs) H := by
  obtain ⟨F, H1, x, dx, ws, ds, r, rfl, rfl, hx, hdx, hne, e, ra, hR, q⟩ := h
  cases r with
  | ok fs =>
    exact body_I (R := fun ds' fs' => ds' = ds ∧ fs' = fs) (t := t E) (E := E) ⟨F, H1, x, dx, ws, ds, fs, rfl, rfl, hx, hdx, hne, e, ra, ⟨rfl, rfl⟩, q⟩ (fun ds' d' hz => by rw [hz.1]; exact hn ds _ hR) fun x' ds' fs' hz => by
      rw [hz.1, hz.2]
      exact hok x' ds fs E hR
  | exc D =>
    obtain ⟨F, rest⟩ : ∃ F', F' = F := ⟨F, rfl⟩
    subst rest
    -- the same start as body_I's
    have hs := hex x ds D E hR
    have E1 := startI_en (K := K) (N := N) (C := C) hx hdx hne e ra (hn ds _ hR)
    exact hs E1 fun F' H' ro => q F' H' ro
end
end Cy
namespace Cy
open PySem PySem.Spec PyProof.Rows L2 Evl
/-! try: e / except C as n: m = n -/
/-- the expression raises C -/
structure RsD (K : PySem.W.Frag) (te : (L2.St → XK) → TE) (G : List Sl) (C : Addr) : Prop where
  run : ∀ {H0 F0 F H : Hp} {σ : L2.St}, En K H0 F0 F H σ G → ∀ (E : L2.St → XK) (Q : VK), (∀ F' H', En K H0 F0 F' H' σ G → Ex F F' → Ex H H' → Nw F F' H → E σ (.ref C) none H') → te E σ H Q
def tTry (K : PySem.W.Frag) (c : Value) (i m : Nat) (te : (L2.St → XK) → TE) : TS := fun D σ H => tDrop (te (WE (wKept K c i (fun _ _ _ => tAsg (tVar i) (gName m)) (fun _ _ _ _ => False) D))) D σ H
section
variable {K : PySem.W.Frag} {G G1 G2 : List Sl} {ta tr : TA} {to : TE} {ds : List D} {d : D} {C C' : Addr}
theorem rs_call {R : List D → Res → Prop} (h : EvS K ta G ds) (hR : R ds (.exc C)) : RsD K (fun E => tCallS (spX K R) E ta) G C := .mk fun {H0 F0 F H σ} En E Q q =>
  h En _ fun vs F1 H1 E1 f1 g1 n1 r1 => ⟨F1, ds, .exc C, E1.ef, r1, hR, fun F2 H2 ro => q F2 H2 (E1.grow ro.e1 ro.e0 ro.ef ro.nf) (f1.trans ro.e1) (g1.trans ro.e0) (n1.trans ro.nf g1)⟩
theorem ev_callS {R : List D → Res → Prop} {E : L2.St → XK} (h : EvS K ta G ds) (hR : R ds (.ok d)) : EvD K (tCallS (spX K R) E ta) G d := .mk fun {H0 F0 F H σ} En Q q =>
  h En _ fun vs F1 H1 E1 f1 g1 n1 r1 => ⟨F1, ds, .ok d, E1.ef, r1, hR, fun v F2 H2 ro r2 => q v F2 H2 (E1.grow ro.e1 ro.e0 ro.ef ro.nf) (f1.trans ro.e1) (g1.trans ro.e0) (n1.trans ro.nf g1) r2⟩
theorem rs_make {R : List D → ResI → Prop} (h : EvS K ta G ds) (hR : R ds (.exc C)) : RsD K (fun E => tMakeS C' (spIX K C' R) E ta) G C := .mk fun {H0 F0 F H σ} En E Q q =>
  h En _ fun vs F1 H1 E1 f1 g1 n1 r1 => fun x dx hx hdx hne =>
    ⟨F1, H1, x, dx, vs ++ [], ds, .exc C, rfl, rfl, hx, hdx, hne, E1.ef, by rw [List.append_nil]; exact r1, hR, fun F2 H2 ro => q F2 H2 (E1.grow ro.e1 ro.e0 ro.ef ro.nf) (f1.trans ro.e1) (g1.trans ro.e0) (n1.trans ro.nf g1)⟩
theorem ev_makeS {R : List D → ResI → Prop} {fs : List (Str × D)} {E : L2.St → XK} (h : EvS K ta G ds) (hR : R ds (.ok fs)) : EvD K (tMakeS C' (spIX K C' R) E ta) G (.obj C' fs) := .mk fun {H0 F0 F H σ} En Q q =>
  h En _ fun vs F1 H1 E1 f1 g1 n1 r1 => fun x dx hx hdx hne => by
    refine ⟨F1, H1, x, dx, vs ++ [], ds, .ok fs, rfl, rfl, hx, hdx, hne, E1.ef, by rw [List.append_nil]; exact r1, hR, fun gs dx' F' H' ro hF hH hn hr => ⟨rfl, ?_⟩⟩
    have ef : Ex F' (upd F' x (.ins C' dx' gs)) := Ex.new hF
    have nw : Nw F1 (upd F' x (.ins C' dx' gs)) H1 := nw_upd hx ro.nf
    refine q (.ref x) (upd F' x (.ins C' dx' gs)) H' (E1.grow (ro.e1.trans ef) ro.e0 (fun z o y => ?_) nw) ((f1.trans ro.e1).trans ef) (g1.trans ro.e0) (n1.trans nw g1) (.obj upd_same hn (hr.mono ef))
    by_cases hz : z = x
    · subst hz
      rw [upd_same] at y
      cases y
      exact hH
    · rw [upd_ne hz] at y
      exact ro.ef z o y
/-- nothing is raised -/
theorem st_try_ok {te : (L2.St → XK) → TE} {c : Value} {i m : Nat} (h : ∀ E, EvD K (te E) G d) : StD K (tTry K c i m te) G (.nx G) := .mk fun {H0 F0 F H σ E} En p =>
  (h _) En _ fun v F1 H1 E1 f1 g1 n1 r1 => p σ F1 H1 E1 f1
/-- it is caught, and kept -/
theorem st_try_exc {te : (L2.St → XK) → TE} {c : Value} {i m : Nat} (him : i ≠ m) (h : RsD K te G C) (hc : PySem.W.exmOne K (.ref C) c = some true) (hi : i < G.length) : StD K (tTry K c i m te) G (.nx ((G.set m (.dat (.exc C))).set i .no)) := .mk fun {H0 F0 F H σ E} En p =>
  h.run En _ _ fun F1 H1 E1 f1 g1 n1 => by
    refine ⟨true, hc, fun _ a ha => ?_, fun q => nomatch q⟩
    have hl : i < σ.length := by
      rw [E1.len]
      exact hi
    refine ⟨.ref a, List.getElem?_set_self hl, ?_⟩
    have hF : F1 a = none := ex_none E1.ef ha
    have ef : Ex F1 (upd F1 a (ExK (.ref C) none a)) := Ex.new hF
    have E2 := E1.grow ef (Ex.new ha) (ex_upd_both E1.ef) (nw_upd ha (Nw.refl F1 H1))
    have E3 := (E2.setD (v := .ref a) (d := .exc C) (.exc upd_same) m).setN i
    have e : ((σ.set i (some (.ref a))).set m (some (.ref a))).set i none = (σ.set m (some (.ref a))).set i none := by
      rw [List.set_comm _ _ him, List.set_set]
    show E.nx (((σ.set i (some (.ref a))).set m (some (.ref a))).set i none) (upd H1 a (ExK (.ref C) none a))
    rw [e]
    exact p _ _ _ E3 (f1.trans ef)
/-- isinstance(e, T) of what was kept -/
def gIsi (K : PySem.W.Frag) := orC (rIsK K) (rIsi K)
theorem call_gIsi {X : Cx} : CallR X (.builtin "isinstance") (gIsi X.K) := call_isK.or call_isi
theorem e_isK {D' : Addr} {cv : Value} {v : V} {b : Bool} (h : EvD K to G (.exc C)) (hx : ExcC K C) (hv : ∀ u, RelV v u → u = cv) (hk : PySem.W.kitOne K (.ref C) cv = some b) : EvD K (tCB (gIsi K) (tCons to (tCons (tC v) tNil))) G (.bl b) := .mk fun {H0 F0 F H σ} E Q q =>
  h E _ fun u F1 H1 E1 f1 g1 n1 r1 => by
    cases r1 with
    | exc ha =>
      refine Or.inl ⟨_, C, v, cv, b, rfl, E1.ef _ _ ha, hx, hv, hk, ?_⟩
      exact q _ F1 H1 E1 f1 g1 n1 (.bl b)
end
/-- the rule: the body is one expression -/
theorem ps_tryE {X : Cx} {x n : Str} {c : Value} {i m : Nat} {e : Expr} {b₀ : Stmt} {np pos pos' epos : Pos} {te : (L2.St → XK) → TE} (hs : X.stack = X.env :: X.outer) (hf : X.env.frame = some X.env.locals) (hN : X.N.Nodup) (hi : X.N[i]? = some n) (hln : X.env.kindOf n = some .local) (hc : Names X x c) (hcell : X.env.cells = []) (hex : X.ex = [])
    (hb : ∀ (W : WX) (pn : List (Addr × Obj)) (xe : Value → Shared → Prop), Takes (X.tr pn xe) W → PS (X.tr pn xe) (.Expr e epos) (tDrop (te (WE W))))
    (hsu : ∀ (a : Addr) (pn : List (Addr × Obj)), PS (X.suite a pn) b₀ (tAsg (tVar i) (gName m))) :
    PS X (.Try [.Expr e epos] [.ExceptHandler (some (.Name x np)) (some n) [b₀] pos'] [] [] pos) (tTry X.K c i m te) :=
  ps_try_kept (tb := fun W => tDrop (te (WE W))) (ts := fun _ _ _ => tAsg (tVar i) (gName m)) hs hf hN hi hln hc takes0 hcell hex (fun W pn xe tk _ => pss_one (hb W pn xe tk)) fun a oe cls d pn _ _ => pss_one (hsu a _)
end Cy
namespace Cy
open PySem PySem.Spec PyProof.Rows L2
/-! isinstance's answer for classes of the text -/
theorem kit_self {K : PySem.W.Frag} {t : Value} : PySem.W.kitOne K t t = some true := if_pos (beq_self_eq_true t)
theorem kit_ref {K : PySem.W.Frag} {t : Value} {C : Addr} {b : Bool} (h1 : PySem.W.hasDictIn K C = true) (ht : PySem.W.typeIn K (.ref C) = some (.type "type")) (hs : PySem.W.subIn K t (.ref C) = some b) (hd : (t == .ref C) = false) : PySem.W.kitOne K t (.ref C) = some b := by
  obtain ⟨cd, hc, _⟩ := PySem.W.any_some h1
  have e : ((PySem.W.clsIn K C).isSome && PySem.W.typeIn K (.ref C) == some (.type "type")) = true := by rw [hc, ht] <;> rfl
  show (if (t == .ref C) = true then some true else if ((PySem.W.clsIn K C).isSome && PySem.W.typeIn K (.ref C) == some (.type "type")) = true then PySem.W.subIn K t (.ref C) else none) = some b
  rw [hd, if_neg Bool.false_ne_true, if_pos e]
  exact hs
theorem kit_typ {K : PySem.W.Frag} {C : Addr} {T : String} {b : Bool} (hm : PySem.W.kitMeta T = true) (hs : PySem.W.subIn K (.ref C) (.type T) = some b) : PySem.W.kitOne K (.ref C) (.type T) = some b := by
  have hd : (Value.ref C == Value.type T) = false := rfl
  show (if (Value.ref C == Value.type T) = true then some true else if PySem.W.kitMeta T = true then PySem.W.subIn K (.ref C) (.type T) else none) = some b
  rw [hd, if_neg Bool.false_ne_true, if_pos hm]
  exact hs
end Cy

set_option Elab.async false
set_option linter.all false
set_option maxRecDepth 100000
set_option maxHeartbeats 2000000
namespace Cy
open PySem PySem.Spec PyProof.Rows L2 Evl
/-! a def's promise where nothing around it is being shown (no guard stands): what repr of lists, tuples, dicts wants -/
def Calm (k : Nat) (A : Around) : Prop := Room k A ∧ A.guards = some []
structure FnG (P : Program) (w : World) (K : PySem.W.Frag) (mg : Str → Option Value) (base : Heap) (CX : CXT) (k : Nat) (f : Addr) (fd : FuncData) (ps : List Str) (sp : Sp) : Prop where
  len : ∀ vs H Q E, sp vs H Q E → vs.length = ps.length
  run : ∀ (A : Around) (outer : List Env) (s : Shared) (H : Hp) (args : Args) (us : List Value) (vs : List V) (Q : VK) (E : XK), Calm k A → Env0 P w K mg base A outer s H → BindsTo s fd args (ps.zip us) → Vals vs us → sp vs H Q E →
    codeAny (model P w) A (.call (.ref f) args) (CR CX outer P w H s Q E) s
/-- what is promised anywhere is promised there -/
theorem FnG.of {P : Program} {w : World} {K : PySem.W.Frag} {mg : Str → Option Value} {base : Heap} {CX : CXT} {k : Nat} {f : Addr} {fd : FuncData} {ps : List Str} {sp : Sp} (F : FnOk P w K mg base CX k f fd ps sp) : FnG P w K mg base CX k f fd ps sp :=
  ⟨F.len, fun A outer s H args us vs Q E c => F.run A outer s H args us vs Q E c.1⟩
/-- a def of the text, by its body's reading -/
theorem fnG_of {CX : CXT} {P : Program} {w : World} {K : PySem.W.Frag} {mg : Str → Option Value} {base : Heap} {k : Nat} {x qual : Str} {st : Stmt} {f : Addr} {fd : FuncData} {N ps : List Str} {sp : Sp} (F : Fun K x qual st f fd) (S : FnScope N ps (defScope st)) (len : ∀ vs H Q E, sp vs H Q E → vs.length = ps.length)
    (hbody : ∀ (cdv : Value) (A : Around) (outer : List Env) (s : Shared) (H : Hp) (vs : List V) (Q : VK) (E : XK), Calm k (A.deeper (envOfC qual (defScope st) s.heap.objs.size f cdv)) → sp vs H Q E →
      ∃ t, PSs (cxOf CX P w K mg base N qual (defScope st) f cdv A outer s H E) (defBody st) t ∧ t { nx := fun _ H' => Q .non H', rt := Q } (start N vs) H) : FnG P w K mg base CX (k + 1) f fd ps sp := by
  obtain ⟨oc, od, kV, doc, pm, an, cdv, ct, osl, rfl, lk, hcd⟩ := F.ex
  refine ⟨len, fun A outer s H args us vs Q E hr e0 hb r hsp => ?_⟩
  have grows : ∀ b o, base.get? b = some o → s.heap.get? b = some o := fun b o e => (e0.bs b o e).1
  have KX : K.In s.heap := e0.mod.kin.keeps grows
  refine codeAny_call_function hr.1.depth (KX _ _ lk) rfl S.co S.gen rfl (PySem.W.codeRec_of KX hcd) (hb _ _ _ _ (wpAny_newFunctionEnv_cells S.kind (fun y hy => ?_) fun env he s1 x => ?_))
  · rcases S.par y.1 (List.of_mem_zip (show (y.1, y.2) ∈ ps.zip us from hy)).1 with q | q
    · exact .inl q
    · exact .inr ⟨q, PySem.W.cellsFrom_some _ _ _ (.inl q)⟩
  subst he
  refine ⟨(e0.mod.nolimit.keeps grows).keeps x.toInCall.keep, codeAny_func ?_⟩
  obtain ⟨t, ht, hq⟩ := hbody cdv A outer s H vs Q E ⟨hr.1.deeper _, hr.2⟩ hsp
  have done : ∀ {σ' : L2.St} {H' : Hp} {v : V} {u : Value} {s' : Shared}, Inv (cxOf CX P w K mg base N qual (defScope st) f cdv A outer s H E) [] σ' H' s' → RelV v u → Q v H' → CE outer P w H s Q u s' := fun {σ' H' v u s'} J rv q => ⟨v, H', J.os, J.bare, J.base, J.hok, rv, q⟩
  refine wpAny_mono (ht.run [] s1 (start N vs) H _ (inv_start S hr.1.hd e0 (len _ _ _ _ hsp) r x) hq) (fun fl s' hs => ?_) fun e s' hs => hs
  cases fl with
  | ret u =>
    obtain ⟨v, σ', H', J, rv, q⟩ := hs
    exact done J rv q
  | next =>
    obtain ⟨σ', H', J, q⟩ := hs
    exact done (v := V.non) (u := Value.none) J rfl q
  | brk =>
    obtain ⟨_, _, _, q⟩ := hs
    exact q.elim
  | cont =>
    obtain ⟨_, _, _, q⟩ := hs
    exact q.elim
/-- a call of such a def -/
theorem pe_callG {X : Cx} {CX : CXT} {k : Nat} {f : Addr} {fd : FuncData} {ps : List Str} {sp : Sp} {E : XK} {x : Str} {p pos : Pos} {e : Expr} {es : List Expr} {t : TA} (F : FnG X.prog X.w X.K X.mg X.base CX k f fd ps sp) (hr : Calm k X.A) (hg : Gl X x) (hm : X.mg x = some (.ref f)) (hk : PySem.W.keepIn X.K (.ref f) = true) (hb : Binds X.K fd ps [])
    (hx : Passes CX X E) (ha : PA X (e :: es) t) (hdb : (x == ("__debug__" : Str)) = false := by decide) (he : starEach (e :: es) X.env = (false, eval e X.env) :: starEach es X.env := by rfl) (hpl : (backTo pos (starEach es X.env)).any (·.1) = false := by rfl) :
    PE X (.Call (.Name x p) (e :: es) [] pos) (tCall sp [] E t) := by
  refine ⟨fun pins s σ H Q I h => wpAny_Call_Name_kw (ld_glob I hg hm ?_ hdb)⟩
  refine PySem.W.callWith_K (h₀ := X.base) I.ok.mod.kin hk (thn (ha.run pos pins s σ H _ I h) fun us s1 ⟨vs, H1, I1, r, q⟩ => ⟨I1.kIn, ?_⟩) he hpl
  have q : sp (vs ++ []) H1 Q E := q
  rw [List.append_nil] at q
  have b := hb s1 us I1.kIn (by rw [List.append_nil, ← r.length]; exact F.len _ _ _ _ q)
  rw [List.append_nil] at b
  refine wpAny_call (codeAny_mono (F.run X.A X.stack s1 H1 ⟨us, []⟩ us vs Q E hr I1.env0 b r q) fun fl s' hq => ?_)
  cases fl with
  | error u => exact hx pins σ H1 s1 u s' I1 hq
  | ok fl =>
    cases fl with
    | ret u => exact I1.after hq
    | next => exact False.elim hq
    | brk => exact False.elim hq
    | cont => exact False.elim hq

/-! the end: from the law's promise to the walk -/
/-- the abstract heap at the law's entry: the script alone, where the written part doesn't have it -/
def scriptH (K : PySem.W.Frag) (a : Addr) (o : Obj) (ns : List Int) : Hp := fun b => if b = a then (match K.lookup a with | none => some (.frz o (.lst (ns.map V.int))) | some _ => none) else none
theorem scriptH_ne {K : PySem.W.Frag} {a b : Addr} {o : Obj} {ns : List Int} (h : b ≠ a) : scriptH K a o ns b = none := if_neg h
theorem scriptH_some {K : PySem.W.Frag} {a b : Addr} {o : Obj} {ns : List Int} {u : HO} (h : scriptH K a o ns b = some u) : b = a ∧ u = .frz o (.lst (ns.map V.int)) ∧ K.lookup a = none := by
  by_cases e : b = a
  · subst e
    unfold scriptH at h
    rw [if_pos rfl] at h
    cases q : K.lookup b with
    | none =>
      rw [q] at h
      cases h
      exact ⟨rfl, rfl, rfl⟩
    | some o' =>
      rw [q] at h
      cases h
  · rw [scriptH_ne e] at h
    cases h
theorem law_callG {P : Program} {w : World} {K : PySem.W.Frag} {mg mb : Str → Option Value} {CX : CXT} {k : Nat} {fa a : Addr} {fd : FuncData} {x : Str} {sp : Sp} {s₁ : Shared} {vs : List Value} {ns : List Int}
    (KX : K.In s₁.heap) (hns : s₁.heap.Ns mainGlobals mg) (hb : s₁.heap.Ns builtinsNs mb) (hbb : ∀ x : Str, x ≠ "__name__" → mb x = bootBuiltins x) (hlim : s₁.heap.NoLimit) (hg : s₁.gens = #[])
    (ha : s₁.heap.get? a = some { cls := .type "list", data := .seq vs.toArray }) (hi : IntsAre vs ns) (hl : ns.length ≤ sizeLine) (hr : Room k callerA)
    (hmods : ∃ mm, s₁.heap.Ns sysModules mm) (F : ∀ base : Heap, K.In base → base.Ns mainGlobals mg → (∃ o, base.get? sysModules = some o) → FnG P w K mg base CX k fa fd [x] sp) (hbind : ∀ (s : Shared) (u : Value), BindsTo s fd ⟨[u], []⟩ [(x, u)])
    (hsp : ∀ H : Hp, SqL K H a (ns.map V.int) → sp [.ref a] H (fun v _ => v = .bl true) fun _ _ _ => False) (hCX : ∀ H e s', CX [] H s₁ (fun _ _ _ => False) e s' → False) :
    codeAny (model P w) callerA (.call (.ref fa) ⟨[.ref a], []⟩) (fun r s' => r = .ok (.ret (.bool true)) ∧ OldK s₁.heap s'.heap ∧ s'.os = s₁.os ∧ AllBare s'.gens) s₁ := by
  have rv := vals_ints hi
  have len : vs.length ≤ sizeLine := by
    rw [hi.length]
    exact hl
  generalize ho : ({ cls := .type "list", data := .seq vs.toArray } : Obj) = o at ha
  generalize hH : scriptH K a o ns = H
  have hs : ∀ {b u}, H b = some u → b = a ∧ u = .frz o (.lst (ns.map V.int)) ∧ K.lookup a = none := fun {b u} q => scriptH_some (by rw [hH]; exact q)
  -- the script, read
  have hS : SqL K H a (ns.map V.int) := by
    cases q : K.lookup a with
    | some o' =>
      have e := KX a o' q
      rw [ha] at e
      cases e
      subst ho
      exact .inr ⟨_, vs.toArray, _, q, rfl, rfl, rfl, by rw [List.size_toArray]; exact len, by simpa using rv⟩
    | none => exact .inl (.inr ⟨o, by rw [← hH]; unfold scriptH; rw [if_pos rfl, q]⟩)
  have hok : HOk P w H s₁.heap := fun b u q => by
    obtain ⟨rfl, rfl, _⟩ := hs q
    subst ho
    exact ⟨ha, by rw [List.length_map]; exact hl, vs, _, rv, ha⟩
  -- what the base has
  have stay : ∀ {b : Addr} {u : Obj}, s₁.heap.get? b = some u → H b = none → (hidT s₁.heap H).get? b = some u := fun e n => hidT_get e n
  have noDict : ∀ {b : Addr} {u : Obj} {es : Array DictEntry} {ep : Nat}, s₁.heap.get? b = some u → u.data = .dict es ep → H b = none := fun {b u es ep} e d => by
    cases q : H b with
    | none => rfl
    | some u' =>
      obtain ⟨rfl, _⟩ := hs q
      rw [ha] at e
      cases e
      subst ho
      cases d
  have nsT : ∀ {b : Addr} {m : Str → Option Value}, s₁.heap.Ns b m → (hidT s₁.heap H).Ns b m := fun {b m} ⟨u, es, ep, e, d, r⟩ => ⟨u, es, ep, stay e (noDict e d), d, r⟩
  have KT : K.In (hidT s₁.heap H) := fun b u e => stay (KX b u e) (by
    cases q : H b with
    | none => rfl
    | some u' =>
      obtain ⟨rfl, _, n⟩ := hs q
      rw [n] at e
      cases e)
  have M : Mod K mg (hidT s₁.heap H) := ⟨KT, nsT hns, ⟨mb, nsT hb, hbb⟩, let ⟨mc, h1, h2⟩ := hlim; ⟨mc, nsT h1, h2⟩⟩
  have e0 : Env0 P w K mg (hidT s₁.heap H) callerA [] s₁ H := ⟨rfl, M, fun b u e => of_hidT e, Nat.le_of_eq (hidT_size _ _), trivial, fun b z => (nomatch z), hok, .of_eq hg⟩
  refine codeAny_mono ((F _ KT (nsT hns) (let ⟨_, u, _, _, e, d, _⟩ := hmods; ⟨u, stay e (noDict e d)⟩)).run callerA [] s₁ H ⟨[.ref a], []⟩ [.ref a] [.ref a] _ _ ⟨hr, rfl⟩ e0 (hbind s₁ (.ref a)) (.cons rfl .nil) (hsp H hS)) fun r s' h => ?_
  cases r with
  | error e => exact (hCX H e s' h).elim
  | ok fl =>
    cases fl with
    | next => exact False.elim h
    | brk => exact False.elim h
    | cont => exact False.elim h
    | ret u =>
      obtain ⟨v, H', os, bare, un, hok', r', q⟩ := h
      have q' : v = .bl true := q
      subst q'
      obtain rfl : u = Value.bool true := r'
      refine ⟨rfl, OldK.of_keep fun b o' e => ?_, os, bare⟩
      cases q : H b with
      | none => exact un.keep b o' e q (fun z => nomatch z) (fun z => nomatch z)
      | some u' =>
        obtain ⟨rfl, rfl, _⟩ := hs q
        obtain ⟨e1, _⟩ := hok b _ q
        obtain ⟨e2, _⟩ := hok' b _ (un.frzs b o _ q)
        rw [e] at e1
        cases e1
        exact e2
theorem walkG {l : PySem.W.OpenLaw} {n k : Nat} {q : Program} {loose : List Str} {XP : (Str → Option Value) → Heap → Prop} {YP : World → Heap → Prop} {d : DefRec} {K : Params → PySem.W.Frag} {CX : World → CXT} {sp : World → Sp} {x : Str}
    (hn : l.most = some n) (hn2 : n ≤ sizeLine) (hdf : d.params.defaults = []) (hr : Room k callerA) (hq : importsNone q = true) (hY : ∀ (w : World) (h : Heap), YP w h → (K w.params).In h)
    (F : ∀ (w : World) (mg : Str → Option Value) (fa : Addr) (h : Heap), (K w.params).In h → h.Ns mainGlobals mg → mg d.name = some (.ref fa) →
      ∃ fd : FuncData, (∀ (s : Shared) (u : Value), BindsTo s fd ⟨[u], []⟩ [(x, u)]) ∧ ∀ base : Heap, (K w.params).In base → base.Ns mainGlobals mg → (∃ o, base.get? sysModules = some o) → FnG l.prog w (K w.params) mg base (CX w) k fa fd [x] (sp w))
    (hsp : ∀ (w : World) (H : Hp) (a : Addr) (ns : List Int), ns.length ≤ n → SqL (K w.params) H a (ns.map V.int) → sp w [.ref a] H (fun v _ => v = .bl true) fun _ _ _ => False)
    (hCX : ∀ (w : World) (H : Hp) (s : Shared) (e : Value) (s' : Shared), CX w [] H s (fun _ _ _ => False) e s' → False) : PySem.W.WalkO q loose XP YP l.row.toRowW d [] (fun f vs => PySem.call f vs) := by
  refine Att.attach_call hn hdf fun w s₀ s₁ mg mb fa o pm cd doc a vs ns G Y ho hd hcd hmg hobj hints hlen hg => ?_
  obtain ⟨fd, hb, hF⟩ := F w mg fa _ (hY w _ Y) G.T.g hmg
  exact law_callG (hY w _ Y) G.T.g G.T.b G.T.builtins G.T.nolimit hg hobj hints (Nat.le_trans hlen hn2) hr (let ⟨mm, h1, _⟩ := (G.T.seer hq).mods; ⟨mm, h1⟩) hF hb (fun H hS => hsp w H a ns hlen hS) fun H e s' => hCX w H s₁ e s'
end Cy

set_option Elab.async false
set_option linter.all false
set_option maxRecDepth 100000
set_option maxHeartbeats 2000000
namespace Cy
open PySem PySem.Spec PyProof.Rows L2 Evl
/-! repr of data -/
mutual
def toQ : D → PyData
  | .non => .none
  | .bl b => .bool b
  | .int i => .int i
  | .str s => .str s
  | .lst xs => .list (toQs xs)
  | .tup xs => .tuple (toQs xs)
  | .dic _ => .dict []
  | .obj _ _ => .none
  | .scr _ => .none
  | .exc _ => .none
  | .ptr _ => .none
def toQs : List D → List PyData
  | [] => []
  | x :: xs => toQ x :: toQs xs
end
mutual
def shOk : D → Bool
  | .lst xs => shOks xs
  | .tup xs => shOks xs
  | .dic es => es.isEmpty
  | .obj _ _ => false
  | .scr _ => false
  | .exc _ => false
  | .ptr _ => false
  | _ => true
def shOks : List D → Bool
  | [] => true
  | x :: xs => shOk x && shOks xs
end
section
variable {X : Cx} {pins : List (Addr × Obj)} {σ : L2.St} {F H : Hp} {s : Shared}
mutual
theorem rp_reads (I : Inv X pins σ H s) (hsm : ∃ o, X.base.get? sysModules = some o) (e : Ex F H) : ∀ {d : D} {v : V} {u : Value}, Rp X.K F v d → RelV v u → shOk d = true → ∃ as, Reads s.heap u (toQ d) as ∧ sysModules ∉ as
  | .non, _, _, h, r, _ => by
    cases h
    cases r
    unfold toQ
    exact ⟨_, Reads.none, fun z => nomatch z⟩
  | .bl b, _, _, h, r, _ => by
    cases h
    cases r
    unfold toQ
    exact ⟨_, Reads.bool b, fun z => nomatch z⟩
  | .int i, _, _, h, r, _ => by
    cases h
    obtain ⟨t, rfl⟩ := r
    unfold toQ
    exact ⟨_, Reads.int i t, fun z => nomatch z⟩
  | .str x, _, _, h, r, _ => by
    cases h
    obtain ⟨t, rfl⟩ := r
    unfold toQ
    exact ⟨_, Reads.str x t, fun z => nomatch z⟩
  | .lst ds, _, _, h, r, q => by
    cases h with
    | lst ha rs =>
      cases r
      obtain ⟨its, rv, ⟨o, n, ho, hc, _, hd⟩, _⟩ := I.list (sq_of (e _ _ ha))
      obtain ⟨as, hr, hn⟩ := rpa_reads I hsm e rs rv (by unfold shOk at q; exact q)
      unfold toQ
      refine ⟨_, Reads.list ho hc hd hr, fun z => ?_⟩
      rcases List.mem_cons.mp z with z | z
      · obtain ⟨ob, eb⟩ := hsm
        have := (I.bs _ ob eb).2
        rw [z, e _ _ ha] at this
        cases this
      · exact hn z
  | .tup ds, _, _, h, r, q => by
    cases h with
    | tup ha rs =>
      cases r
      obtain ⟨its, rv, ⟨o, ho, hc, n, hd⟩, _⟩ := I.tuple (st_of (e _ _ ha))
      obtain ⟨as, hr, hn⟩ := rpa_reads I hsm e rs rv (by unfold shOk at q; exact q)
      unfold toQ
      exact ⟨_, Reads.tuple ho hc hd hr, hn⟩
  | .dic es, _, _, h, r, q => by
    cases h with
    | dic ha r1 r2 =>
      cases r
      unfold shOk at q
      cases es with
      | cons p es => cases q
      | nil =>
        rename_i a kvs
        have hk : kvs = [] := by
          cases kvs with
          | nil => rfl
          | cons p kvs => cases r1
        subst hk
        obtain ⟨_, hs, vs, hkv, o, es', ep, ho, hx, hd, _, hp, _⟩ := I.hok _ _ (e _ _ ha)
        cases hkv
        have he : es'.toList = [] := by
          cases hq : es'.toList with
          | nil => rfl
          | cons p ps =>
            rw [hq] at hp
            cases hp
        unfold toQ
        refine ⟨_, Reads.dict (kvs := []) (as := []) (bs := []) ho hx.1 hd ?_ ?_, fun z => ?_⟩
        · rw [he]
          exact .nil
        · rw [he]
          exact .nil
        · rcases List.mem_cons.mp z with z | z
          · rw [← z] at hs
            cases hs
          · cases z
  | .obj _ _, _, _, _, _, q => by unfold shOk at q; cases q
  | .scr _, _, _, _, _, q => by unfold shOk at q; cases q
  | .exc _, _, _, _, _, q => by unfold shOk at q; cases q
  | .ptr _, _, _, _, _, q => by unfold shOk at q; cases q
theorem rpa_reads (I : Inv X pins σ H s) (hsm : ∃ o, X.base.get? sysModules = some o) (e : Ex F H) : ∀ {ds : List D} {vs : List V} {us : List Value}, RpA X.K F vs ds → Vals vs us → shOks ds = true → ∃ as, ReadsAll s.heap us (toQs ds) as ∧ sysModules ∉ as
  | [], _, _, h, r, _ => by
    cases h
    cases r
    unfold toQs
    exact ⟨_, ReadsAll.nil, fun z => nomatch z⟩
  | d :: ds, _, _, h, r, q => by
    cases h with
    | cons h1 h2 =>
      cases r with
      | cons r1 r2 =>
        unfold shOks at q
        rw [Bool.and_eq_true] at q
        obtain ⟨as, q1, n1⟩ := rp_reads I hsm e h1 r1 q.1
        obtain ⟨bs, q2, n2⟩ := rpa_reads I hsm e h2 r2 q.2
        unfold toQs
        exact ⟨_, ReadsAll.cons q1 q2, fun z => (List.mem_append.mp z).elim n1 n2⟩
end
end
/-- repr(x), x a list, a tuple or an empty dict -/
def rReprD (K : PySem.W.Frag) : List V → Hp → VK → Prop := fun xs H Q => ∃ (F : Hp) (a : Addr) (d : D), xs = [.ref a] ∧ Ex F H ∧ Rp K F (.ref a) d ∧ shOk d = true ∧ PyData.showable (toQ d) = true ∧ (toQ d).depth ≤ 60 ∧ (toQ d).shown.length ≤ sizeLine ∧ Q (.str (toQ d).shown) H
theorem call_reprD {X : Cx} (hg : X.A.guards = some []) (hu : X.A.units + 64 < cLine) (hsm : ∃ o, X.base.get? sysModules = some o) : CallR X (.builtin "repr") (rReprD X.K) := by
  intro pins s σ H xs us Q I r h
  obtain ⟨F, a, d, rfl, e, hr, hs, hw, hd, hz, q⟩ := h
  cases r with
  | cons rx rr =>
    cases rr
    cases rx
    obtain ⟨as, R, n⟩ := rp_reads I hsm e hr rfl hs
    exact repr_of_reads' R hw (fun _ => n) hg (by omega) (fun _ _ z => z) (fun h' u tk k => ⟨.str _, H, I.kept (t' := tk) k, ⟨_, rfl⟩, q⟩) hz
def gReprA (K : PySem.W.Frag) := orC gRepr (rReprD K)
theorem call_gReprA {X : Cx} (hg : X.A.guards = some []) (hu : X.A.units + 64 < cLine) (hsm : ∃ o, X.base.get? sysModules = some o) : CallR X (.builtin "repr") (gReprA X.K) := call_gRepr.or (call_reprD hg hu hsm)
theorem n_reprD {K : PySem.W.Frag} {d : D} (hr : ∀ {F : Hp} {v : V}, Rp K F v d → ∃ a, v = .ref a) (hs : shOk d = true) (hw : PyData.showable (toQ d) = true) (hd : (toQ d).depth ≤ 60) (hz : (toQ d).shown.length ≤ sizeLine) : OpN K (gReprA K) [d] (.str (toQ d).shown) := opn_r (op1_v fun {F H vs} e r => by
  obtain ⟨v, rfl, r1⟩ := rpa1 r
  obtain ⟨a, rfl⟩ := hr r1
  exact ⟨.str _, .str _, fun Q q => ⟨F, a, d, rfl, e, r1, hs, hw, hd, hz, q⟩⟩)
end Cy

set_option Elab.async false
set_option linter.all false
set_option maxRecDepth 100000
set_option maxHeartbeats 2000000
namespace Cy
open PySem L2 Evl
section
variable {K : PySem.W.Frag} {G : List Sl} {ta tb te : TE} {l m : List D}
theorem rpa_rep {F : Hp} {vs : List V} {ds : List D} (r : RpA K F vs ds) : ∀ n : Nat, RpA K F (List.replicate n vs).flatten (List.replicate n ds).flatten
  | 0 => .nil
  | n + 1 => by
    rw [List.replicate_succ, List.replicate_succ, List.flatten_cons, List.flatten_cons]
    exact r.app (rpa_rep r n)
/-- xs * n -/
theorem d_repL {n : Int} (h : 0 ≤ n ∧ n < 1000000) (hz : l.length * n.toNat ≤ 100000) : Op2O K gMul (.lst l) (.int n) (List.replicate n.toNat l).flatten := .mk fun {F H x y} e r1 r2 Q q => by
  cases r1 with
  | lst h1 s1 =>
    cases r2
    exact Or.inr ⟨_, n, _, rfl, rfl, e _ _ h1, by omega, by omega, sz_of (by rw [s1.length]; exact hz), fun p hp => q p _ _ (Ex.new hp) hp upd_same (rpa_rep s1 n.toNat)⟩
/-- [w] * int(b) -/
def wordIf (w : Str) (b : Bool) : List D := if b then [.str w] else []
theorem e_word {w : Str} {b : Bool} (h : EvD K te G (.bl b)) : EvD K (tOp gMul (tLst (tCons (tC (.str w)) tNil)) (tCB gInt (tCons te tNil))) G (.lst (wordIf w b)) := by
  refine e_is (e_share (o_op (e_share (o_lst (ds := [.str w]) (s_cons e_str s_nil) (by show 1 ≤ 100000; decide))) (e_cb (s_cons h s_nil) n_intB) (d_repL ?_ ?_))) ?_
  · cases b <;> decide
  · cases b
    · show 1 * 0 ≤ 100000
      decide
    · show 1 * 1 ≤ 100000
      decide
  · cases b <;> rfl
theorem e_cat (h1 : EvD K ta G (.lst l)) (h2 : EvD K tb G (.lst m)) (hz : l.length + m.length ≤ 100000) : EvD K (tOp (gAdd K) ta tb) G (.lst (l ++ m)) := e_share (o_op h1 h2 (d_catL hz))
/-- two words that don't come -/
theorem e_none2 {i : Nat} {t1 t2 : TE} {w1 w2 : Str} (h : G[i]? = some (.dat (.lst l))) (h1 : EvD K t1 G (.bl false)) (h2 : EvD K t2 G (.bl false)) (hz : l.length ≤ 1000) :
    EvD K (tOp (gAdd K) (tOp (gAdd K) (tVar i) (tOp gMul (tLst (tCons (tC (.str w1)) tNil)) (tCB gInt (tCons t1 tNil)))) (tOp gMul (tLst (tCons (tC (.str w2)) tNil)) (tCB gInt (tCons t2 tNil)))) G (.lst l) := by
  have a := e_cat (e_cat (e_var h) (e_word (w := w1) h1) (by show l.length + 0 ≤ 100000; omega)) (e_word (w := w2) h2) (by
    show (l ++ []).length + 0 ≤ 100000
    rw [List.append_nil]
    omega)
  refine e_is a ?_
  show D.lst ((l ++ []) ++ []) = _
  rw [List.append_nil, List.append_nil]
/-- the first of two comes, the other doesn't -/
theorem e_one2 {i : Nat} {t1 t2 : TE} {w1 w2 : Str} (h : G[i]? = some (.dat (.lst l))) (h1 : EvD K t1 G (.bl true)) (h2 : EvD K t2 G (.bl false)) (hz : l.length ≤ 1000) :
    EvD K (tOp (gAdd K) (tOp (gAdd K) (tVar i) (tOp gMul (tLst (tCons (tC (.str w1)) tNil)) (tCB gInt (tCons t1 tNil)))) (tOp gMul (tLst (tCons (tC (.str w2)) tNil)) (tCB gInt (tCons t2 tNil)))) G (.lst (l ++ [.str w1])) := by
  have a := e_cat (e_cat (e_var h) (e_word (w := w1) h1) (by show l.length + 1 ≤ 100000; omega)) (e_word (w := w2) h2) (by
    show (l ++ [_]).length + 0 ≤ 100000
    rw [List.length_append]
    show l.length + 1 + 0 ≤ 100000
    omega)
  refine e_is a ?_
  show D.lst ((l ++ [.str w1]) ++ []) = _
  rw [List.append_nil]
theorem relv_ref {a : Addr} : ∀ u, RelV (.ref a) u → u = .ref a := fun u h => by
  cases h
  rfl
theorem relv_ty {T : String} : ∀ u, RelV (.ty T) u → u = .type T := fun u h => by
  cases h
  rfl
/-- isinstance(e, X), e kept in slot 0 -/
theorem e_kind {i : Nat} {C X : Addr} {b : Bool} (h : G[i]? = some (.dat (.exc C))) (hx : ExcC K C) (hk : PySem.W.kitOne K (.ref C) (.ref X) = some b) : EvD K (tCB (gIsi K) (tCons (tVar i) (tCons (tC (.ref X)) tNil))) G (.bl b) := e_isK (D' := X) (e_var h) hx relv_ref hk
theorem e_kindT {i : Nat} {C : Addr} {T : String} {b : Bool} (h : G[i]? = some (.dat (.exc C))) (hx : ExcC K C) (hk : PySem.W.kitOne K (.ref C) (.type T) = some b) : EvD K (tCB (gIsi K) (tCons (tVar i) (tCons (tC (.ty T)) tNil))) G (.bl b) := e_isK (D' := C) (e_var h) hx relv_ty hk
end
end Cy

set_option Elab.async false
set_option linter.all false
set_option maxRecDepth 100000
set_option maxHeartbeats 2000000
namespace Cy
open PySem PySem.Spec PyProof.Rows L2 Evl
/-! o.m(..) that may raise, at the slots where it stands -/
section
variable {X : Cx} {CX : CXT} {k : Nat} {f C : Addr} {fd : FuncData} {ps : List Str} {sp : Sp} {E : L2.St → XK} {m : Str} {pos apos : Pos} {o e : Expr} {es : List Expr} {ta : TE} {t : TA}
def tMethE (C : Addr) (m : Str) (sp : Sp) (E : L2.St → XK) (ta : TE) (t : TA) : TE := fun σ H Q => tMeth C m sp [] (E σ) ta t σ H Q
theorem pe_methE {pl : Sem Bool} (he : PE X o ta) (c : Cls X.K C) (hm : Meth X.K C m f) (F : FnOk X.prog X.w X.K X.mg X.base CX k f fd ps sp) (hr : Room k X.A) (hb : Binds X.K fd ps []) (hx : ∀ σ, PassesAt CX X σ (E σ)) (ha : PA X (e :: es) t)
    (hst : starEach (e :: es) X.env = (false, eval e X.env) :: starEach es X.env := by rfl) (hpl : (backTo pos (starEach es X.env)).any (·.1) = false := by rfl)
    (ht : eval (.Call (.Attribute o m apos) (e :: es) [] pos) X.env = (do
      let ov ← eval o X.env
      standAt apos.atName
      let (f, first) ← holding [ov] (getMethod ov m pl)
      callWith pos f first (backTo pos (starEach (e :: es) X.env)) (backToKw pos (keywordEach [] X.env))) := by rfl) :
    PE X (.Call (.Attribute o m apos) (e :: es) [] pos) (tMethE C m sp E ta t) := by
  refine ⟨fun pins s σ H Q I h => PySem.W.methodCall_KW (pl := pl) (thn (he.run pins s σ H _ I h) fun u s1 ⟨x, H1, I1, rx, a, dx, fs, ex, ea, l, q⟩ => ?_) ht⟩
  subst ex
  obtain rfl : u = Value.ref a := rx
  refine getmeth_ok I1 ea c hm l (PySem.W.callWith_K (first := [.ref a]) (h₀ := X.base) I.ok.mod.kin hm.kp (thn (ha.run pos pins s1 σ H1 _ I1 q) fun us s2 ⟨vs, H2, I2, r, q2⟩ => ⟨I2.kIn, ?_⟩) hst hpl)
  have q3 : sp (.ref a :: (vs ++ [])) H2 Q (E σ) := q2
  rw [List.append_nil] at q3
  exact run_fnS (us := .ref a :: us) (vs := .ref a :: vs) F hr hb (hx σ) I2 (.cons rfl r) q3
end
section
variable {K : PySem.W.Frag} {G : List Sl} {to : TE} {tr : TA} {ds : List D} {d : D} {C C' : Addr} {m : Str} {fs : List (Str × D)}
theorem rs_meth {R : List D → Res → Prop} (h : EvD K to G (.obj C' fs)) (hm : fs.lookup m = none) (hr : EvS K tr G ds) (hR : R (.obj C' fs :: ds) (.exc C)) : RsD K (fun E => tMethE C' m (spX K R) E to tr) G C := .mk fun {H0 F0 F H σ} En E Q q =>
  h En _ fun v F1 H1 E1 f1 g1 n1 r1 => by
    have r1' := r1
    cases r1' with
    | obj h1 h2 h3 =>
      refine ⟨_, _, _, rfl, E1.ef _ _ h1, lookup_none h2 hm, hr E1 _ fun vs F2 H2 E2 f2 g2 n2 r2 => ?_⟩
      refine ⟨F2, .obj C' fs :: ds, .exc C, E2.ef, by rw [List.append_nil]; exact .cons (r1.mono f2) r2, hR, fun F3 H3 ro => ?_⟩
      exact q F3 H3 (E2.grow ro.e1 ro.e0 ro.ef ro.nf) ((f1.trans f2).trans ro.e1) ((g1.trans g2).trans ro.e0) ((n1.trans n2 g1).trans ro.nf (g1.trans g2))
theorem ev_methE {R : List D → Res → Prop} {E : L2.St → XK} (h : EvD K to G (.obj C' fs)) (hm : fs.lookup m = none) (hr : EvS K tr G ds) (hR : R (.obj C' fs :: ds) (.ok d)) : EvD K (tMethE C' m (spX K R) E to tr) G d := .mk fun {H0 F0 F H σ} En Q q =>
  h En _ fun v F1 H1 E1 f1 g1 n1 r1 => by
    have r1' := r1
    cases r1' with
    | obj h1 h2 h3 =>
      refine ⟨_, _, _, rfl, E1.ef _ _ h1, lookup_none h2 hm, hr E1 _ fun vs F2 H2 E2 f2 g2 n2 r2 => ?_⟩
      refine ⟨F2, .obj C' fs :: ds, .ok d, E2.ef, by rw [List.append_nil]; exact .cons (r1.mono f2) r2, hR, fun w F3 H3 ro r3 => ?_⟩
      exact q w F3 H3 (E2.grow ro.e1 ro.e0 ro.ef ro.nf) ((f1.trans f2).trans ro.e1) ((g1.trans g2).trans ro.e0) ((n1.trans n2 g1).trans ro.nf (g1.trans g2)) r3
/-- the same where nothing is caught: a method that may raise, which hands something back -/
theorem e_methX {R : List D → Res → Prop} {X : XK} (h : EvD K to G (.obj C' fs)) (hm : fs.lookup m = none) (hr : EvS K tr G ds) (hR : R (.obj C' fs :: ds) (.ok d)) : EvD K (tMeth C' m (spX K R) [] X to tr) G d := ev_methE (E := fun _ => X) h hm hr hR
end
end Cy
namespace Cy
open PySem PySem.Spec PyProof.Rows L2 Evl
theorem Calm.mono {j k : Nat} {A : Around} (c : Calm k A) (h : j ≤ k) : Calm j A := ⟨c.1.mono h, c.2⟩
end Cy

set_option Elab.async false
set_option linter.all false
set_option maxRecDepth 100000
set_option maxHeartbeats 2000000
namespace Cy
open PySem PySem.Spec PyProof.Rows L2 Evl
/-! things that change: a store of cells beside the data -/
inductive Nd where
  | lst (l : List D)
  | dic (es : List (Key × D))
  | ins (C : Addr) (fs : List (Str × D))
  | dicL (od : Obj) (kvs : List (Key × V)) (es : List (Key × D))
  | tb (q : Str)
abbrev Sto := Addr → Option Nd
def updM (M : Sto) (a : Addr) (n : Nd) : Sto := fun b => if b = a then some n else M b
theorem updM_same {M : Sto} {a : Addr} {n : Nd} : updM M a n a = some n := if_pos rfl
theorem updM_ne {M : Sto} {a b : Addr} {n : Nd} (h : b ≠ a) : updM M a n b = M b := if_neg h
inductive BearN (K : PySem.W.Frag) (F : Hp) : HO → Nd → Prop
  | lst {xs : List V} {l : List D} : RpA K F xs l → BearN K F (.lst xs) (.lst l)
  | dic {kvs : List (Key × V)} {es : List (Key × D)} : kvs.map (fun p => p.1) = es.map (fun p => p.1) → RpA K F (kvs.map fun p => p.2) (es.map fun p => p.2) → BearN K F (.dK kvs) (.dic es)
  | ins {C dx : Addr} {gs : List (Str × V)} {fs : List (Str × D)} : gs.map (fun p => p.1) = fs.map (fun p => p.1) → RpA K F (gs.map fun p => p.2) (fs.map fun p => p.2) → BearN K F (.ins C dx gs) (.ins C fs)
  | dicL {od : Obj} {kvs : List (Key × V)} {es : List (Key × D)} : kvs.map (fun p => p.1) = es.map (fun p => p.1) → RpA K F (kvs.map fun p => p.2) (es.map fun p => p.2) → BearN K F (.frz od (.dK kvs)) (.dicL od kvs es)
  | tb {ps : Array Value} {q : Str} : TriplesOk ps.toList → (∀ (pos : Pos) (cv : Value), codeAmong pos ps.toList = some cv → ∃ c, cv = .ref c ∧ F c = some (LamX.CodeO c q)) → BearN K F (.tbl ps) (.tb q)
theorem BearN.mono {K : PySem.W.Frag} {F F' : Hp} (e : Ex F F') {o : HO} {n : Nd} (h : BearN K F o n) : BearN K F' o n := by
  cases h with
  | lst r => exact .lst (r.mono e)
  | dic r s => exact .dic r (s.mono e)
  | ins n r => exact .ins n (r.mono e)
  | dicL r s => exact .dicL r (s.mono e)
  | tb r s => exact .tb r fun pos cv h => (s pos cv h).elim fun c q => ⟨c, q.1, e _ _ q.2⟩
theorem BearN.noTup {K : PySem.W.Frag} {F : Hp} {xs : List V} {n : Nd} (h : BearN K F (.tup xs) n) : False := by
  cases h
def Cells (K : PySem.W.Frag) (F : Hp) (M : Sto) (H : Hp) : Prop := ∀ a n, M a = some n → F a = none ∧ ∃ o, H a = some o ∧ BearN K F o n
structure EnM (K : PySem.W.Frag) (H0 F0 F : Hp) (M : Sto) (H : Hp) (σ : L2.St) (G : List Sl) : Prop where
  en : En K H0 F0 F H σ G
  st : Cells K F M H
  h0 : ∀ a n, M a = some n → H0 a = none
  ow : ∀ (i : Nat) (w : Ow) (p : Addr), G[i]? = some (.own w) → σ[i]? = some (some (.ref p)) → M p = none
section
variable {K : PySem.W.Frag} {H0 F0 F F' H H' : Hp} {M M' : Sto} {σ : L2.St} {G G' : List Sl}
theorem Cells.mono (c : Cells K F M H) (e1 : Ex F F') (e2 : Ex H H') (n : Nw F F' H) : Cells K F' M H' := fun a m h => by
  obtain ⟨h1, o, h2, h3⟩ := c a m h
  refine ⟨?_, o, e2 _ _ h2, h3.mono e1⟩
  cases q : F' a with
  | none => rfl
  | some u =>
    rcases n a u q with z | z
    · rw [h1] at z
      cases z
    · rw [h2] at z
      cases z
theorem EnM.grow (E : EnM K H0 F0 F M H σ G) (e1 : Ex F F') (e2 : Ex H H') (e3 : Ex F' H') (n : Nw F F' H) : EnM K H0 F0 F' M H' σ G :=
  ⟨E.en.grow e1 e2 e3 n, E.st.mono e1 e2 n, E.h0, E.ow⟩
theorem EnM.withG (E : EnM K H0 F0 F M H σ G) (E' : En K H0 F0 F' H' σ G) (e1 : Ex F F') (e2 : Ex H H') (n : Nw F F' H) : EnM K H0 F0 F' M H' σ G := ⟨E', E.st.mono e1 e2 n, E.h0, E.ow⟩
theorem EnM.setD (E : EnM K H0 F0 F M H σ G) {v : V} {d : D} (r : Rp K F v d) (i : Nat) : EnM K H0 F0 F M H (σ.set i (some v)) (G.set i (.dat d)) := ⟨E.en.setD r i, E.st, E.h0, fun j w p h1 h2 => by
  by_cases q : i = j
  · subst q
    by_cases hl : i < G.length
    · rw [List.getElem?_set_self hl] at h1
      cases h1
    · rw [List.getElem?_eq_none (by rw [List.length_set]; omega)] at h1
      cases h1
  · rw [List.getElem?_set_ne q] at h1 h2
    exact E.ow j w p h1 h2⟩
theorem EnM.weak (E : EnM K H0 F0 F M H σ G) (w : Wk G G') : EnM K H0 F0 F M H σ G' := ⟨E.en.weak w, E.st, E.h0, fun j u p h1 h2 => by
  rcases w.get h1 with z | z
  · cases z
  · exact E.ow j u p z h2⟩
/-- a cell changes -/
theorem EnM.put (E : EnM K H0 F0 F M H σ G) {a : Addr} {n n' : Nd} (h : M a = some n) {o' : HO} (r : BearN K F o' n') : EnM K H0 F0 F (updM M a n') (upd H a o') σ G := by
  obtain ⟨h1, o, h2, h3⟩ := E.st a n h
  have h4 := E.h0 a n h
  refine ⟨⟨E.en.dat, fun i w q => ?_, E.en.dis, fun z u q => ?_, fun z u q => ?_, E.en.e1, E.en.nf, E.en.len⟩, fun b m q => ?_, fun b m q => ?_, fun i w p q1 q2 => ?_⟩
  · obtain ⟨p, u, a1, b1, c1, d1, r1⟩ := E.en.own i w q
    have hne : p ≠ a := fun z => by
      subst z
      have := E.ow i w p q a1
      rw [h] at this
      cases this
    exact ⟨p, u, a1, b1, c1, by rw [upd_ne hne]; exact d1, r1⟩
  · have hne : z ≠ a := fun y => by
      subst y
      rw [h4] at q
      cases q
    rw [upd_ne hne]
    exact E.en.e0 z u q
  · have hne : z ≠ a := fun y => by
      subst y
      rw [h1] at q
      cases q
    rw [upd_ne hne]
    exact E.en.ef z u q
  · by_cases hb : b = a
    · subst hb
      rw [updM_same] at q
      cases q
      exact ⟨h1, o', upd_same, r⟩
    · rw [updM_ne hb] at q
      obtain ⟨k1, u, k2, k3⟩ := E.st b m q
      exact ⟨k1, u, by rw [upd_ne hb]; exact k2, k3⟩
  · by_cases hb : b = a
    · subst hb
      exact h4
    · rw [updM_ne hb] at q
      exact E.h0 b m q
  · have hp := E.ow i w p q1 q2
    have hb : p ≠ a := fun z => by
      subst z
      rw [h] at hp
      cases hp
    rw [updM_ne hb]
    exact hp
/-- a new cell -/
theorem EnM.new (E : EnM K H0 F0 F M H σ G) {a : Addr} {n : Nd} {o : HO} (h : H a = some o) (hF : F a = none) (h0 : H0 a = none) (hw : ∀ (i : Nat) (w : Ow), G[i]? = some (.own w) → σ[i]? ≠ some (some (.ref a))) (r : BearN K F o n) : EnM K H0 F0 F (updM M a n) H σ G := by
  refine ⟨E.en, fun b m q => ?_, fun b m q => ?_, fun i w p q1 q2 => ?_⟩
  · by_cases hb : b = a
    · subst hb
      rw [updM_same] at q
      cases q
      exact ⟨hF, o, h, r⟩
    · rw [updM_ne hb] at q
      exact E.st b m q
  · by_cases hb : b = a
    · subst hb
      exact h0
    · rw [updM_ne hb] at q
      exact E.h0 b m q
  · have hb : p ≠ a := fun z => by
      subst z
      exact hw i w q1 q2
    rw [updM_ne hb]
    exact E.ow i w p q1 q2
theorem EnM.free (E : EnM K H0 F0 F M H σ G) {a : Addr} (h : H a = none) : M a = none := by
  cases q : M a with
  | none => rfl
  | some n =>
    obtain ⟨_, o, h2, _⟩ := E.st a n q
    rw [h] at h2
    cases h2
theorem EnM.freeO (E : EnM K H0 F0 F M H σ G) {a : Addr} (h : H a = none) : ∀ (i : Nat) (w : Ow), G[i]? = some (.own w) → σ[i]? ≠ some (some (.ref a)) := fun i w q z => by
  obtain ⟨p, u, a1, b1, c1, d1, r1⟩ := E.en.own i w q
  rw [z] at a1
  cases a1
  rw [h] at d1
  cases d1
end

/-! what a view of the store shows -/
mutual
inductive VwD (M : Sto) : D → D → Prop
  | same (d : D) : VwD M d d
  | plst {a : Addr} {l l' : List D} : M a = some (.lst l) → VwA M l l' → VwD M (.ptr a) (.lst l')
  | pdic {a : Addr} {es es' : List (Key × D)} : M a = some (.dic es) → es.map (fun p => p.1) = es'.map (fun p => p.1) → VwA M (es.map fun p => p.2) (es'.map fun p => p.2) → VwD M (.ptr a) (.dic es')
  | pins {a C : Addr} {fs fs' : List (Str × D)} : M a = some (.ins C fs) → fs.map (fun p => p.1) = fs'.map (fun p => p.1) → VwA M (fs.map fun p => p.2) (fs'.map fun p => p.2) → VwD M (.ptr a) (.obj C fs')
  | lst {l l' : List D} : VwA M l l' → VwD M (.lst l) (.lst l')
  | tup {l l' : List D} : VwA M l l' → VwD M (.tup l) (.tup l')
  | dic {es es' : List (Key × D)} : es.map (fun p => p.1) = es'.map (fun p => p.1) → VwA M (es.map fun p => p.2) (es'.map fun p => p.2) → VwD M (.dic es) (.dic es')
inductive VwA (M : Sto) : List D → List D → Prop
  | nil : VwA M [] []
  | cons {d d' : D} {l l' : List D} : VwD M d d' → VwA M l l' → VwA M (d :: l) (d' :: l')
end
theorem VwA.same {M : Sto} : ∀ l : List D, VwA M l l
  | [] => .nil
  | d :: l => .cons (.same d) (VwA.same l)
inductive VwG (M : Sto) : List Sl → List Sl → Prop
  | nil : VwG M [] []
  | keep {s : Sl} {G G' : List Sl} : VwG M G G' → VwG M (s :: G) (s :: G')
  | dat {d d' : D} {G G' : List Sl} : VwD M d d' → VwG M G G' → VwG M (.dat d :: G) (.dat d' :: G')
/-- F with the cells of the store as they stand -/
def seen (M : Sto) (F H : Hp) : Hp := fun a => match M a with
  | some _ => H a
  | none => F a
theorem seen_some {M : Sto} {F H : Hp} {a : Addr} {n : Nd} (h : M a = some n) : seen M F H a = H a := by
  unfold seen
  rw [h]
theorem seen_none {M : Sto} {F H : Hp} {a : Addr} (h : M a = none) : seen M F H a = F a := by
  unfold seen
  rw [h]
/-- F without the cells of the store -/
def unseen (M : Sto) (F : Hp) : Hp := fun a => match M a with
  | some _ => none
  | none => F a
theorem unseen_some {M : Sto} {F : Hp} {a : Addr} {n : Nd} (h : M a = some n) : unseen M F a = none := by
  unfold unseen
  rw [h]
theorem unseen_none {M : Sto} {F : Hp} {a : Addr} (h : M a = none) : unseen M F a = F a := by
  unfold unseen
  rw [h]
section
variable {K : PySem.W.Frag} {H0 F0 F F' H H' : Hp} {M M' : Sto} {σ : L2.St} {G G' : List Sl}
theorem Cells.seen (c : Cells K F M H) : Ex F (seen M F H) := fun a o q => by
  cases h : M a with
  | none => rw [seen_none h]; exact q
  | some n =>
    rw [(c a n h).1] at q
    cases q
mutual
theorem VwD.rp (c : Cells K F M H) : ∀ {d d' : D} {v : V}, VwD M d d' → Rp K F v d → Rp K (Cy.seen M F H) v d'
  | _, _, _, .same d, r => r.mono c.seen
  | _, _, _, .plst h w, r => by
    cases r
    obtain ⟨_, o, h2, h3⟩ := c _ _ h
    cases h3 with
    | lst h4 => exact .lst (by rw [seen_some h]; exact h2) (VwA.rp c w h4)
  | _, _, _, .pdic h e w, r => by
    cases r
    obtain ⟨_, o, h2, h3⟩ := c _ _ h
    cases h3 with
    | dic h4 h5 => exact .dic (by rw [seen_some h]; exact h2) (h4.trans e) (VwA.rp c w h5)
  | _, _, _, .pins h e w, r => by
    cases r
    obtain ⟨_, o, h2, h3⟩ := c _ _ h
    cases h3 with
    | ins h4 h5 => exact .obj (by rw [seen_some h]; exact h2) (h4.trans e) (VwA.rp c w h5)
  | _, _, _, .lst w, r => by
    cases r with
    | lst h r => exact .lst (c.seen _ _ h) (VwA.rp c w r)
  | _, _, _, .tup w, r => by
    cases r with
    | tup h r => exact .tup (c.seen _ _ h) (VwA.rp c w r)
  | _, _, _, .dic e w, r => by
    cases r with
    | dic h r1 r2 => exact .dic (c.seen _ _ h) (r1.trans e) (VwA.rp c w r2)
theorem VwA.rp (c : Cells K F M H) : ∀ {l l' : List D} {vs : List V}, VwA M l l' → RpA K F vs l → RpA K (Cy.seen M F H) vs l'
  | _, _, _, .nil, r => by
    cases r
    exact .nil
  | _, _, _, .cons h w, r => by
    cases r with
    | cons r1 r2 => exact .cons (VwD.rp c h r1) (VwA.rp c w r2)
end
theorem VwG.get : ∀ {G G' : List Sl} {i : Nat} {s : Sl}, VwG M G G' → G'[i]? = some s → G[i]? = some s ∨ ∃ d d', s = .dat d' ∧ G[i]? = some (.dat d) ∧ VwD M d d'
  | _, _, i, s, .nil, h => by simp at h
  | _, _, 0, s, .keep _, h => .inl (by simpa using h)
  | _, _, 0, s, .dat w _, h => .inr (by
    simp at h
    exact ⟨_, _, h.symm, rfl, w⟩)
  | _, _, i + 1, s, .keep w, h => by
    have := VwG.get (i := i) (s := s) w (by simpa using h)
    simpa using this
  | _, _, i + 1, s, .dat _ w, h => by
    have := VwG.get (i := i) (s := s) w (by simpa using h)
    simpa using this
theorem VwG.length : ∀ {G G' : List Sl}, VwG M G G' → G.length = G'.length
  | _, _, .nil => rfl
  | _, _, .keep w => by rw [List.length_cons, List.length_cons, VwG.length w]
  | _, _, .dat _ w => by rw [List.length_cons, List.length_cons, VwG.length w]
theorem EnM.view (E : EnM K H0 F0 F M H σ G) (w : VwG M G G') : En K H0 F0 (Cy.seen M F H) H σ G' where
  dat := fun i d h => by
    rcases w.get h with z | ⟨d0, d', z, z2, z3⟩
    · obtain ⟨v, a, b⟩ := E.en.dat i d z
      exact ⟨v, a, b.mono E.st.seen⟩
    · cases z
      obtain ⟨v, a, b⟩ := E.en.dat i d0 z2
      exact ⟨v, a, z3.rp E.st b⟩
  own := fun i u h => by
    rcases w.get h with z | ⟨d0, d', z, _⟩
    · obtain ⟨p, o, a, b, c, d, r⟩ := E.en.own i u z
      exact ⟨p, o, a, by rw [seen_none (E.ow i u p z a)]; exact b, c, d, r.mono E.st.seen⟩
    · cases z
  dis := fun i j li lj p hij h1 h2 h3 => by
    rcases w.get h1 with z | ⟨d0, d', z, _⟩
    · rcases w.get h2 with y | ⟨d0, d', y, _⟩
      · exact E.en.dis i j li lj p hij z y h3
      · cases y
    · cases z
  e0 := E.en.e0
  ef := fun a o q => by
    cases h : M a with
    | none =>
      rw [seen_none h] at q
      exact E.en.ef a o q
    | some n =>
      rw [seen_some h] at q
      exact q
  e1 := E.en.e1.trans E.st.seen
  nf := fun a o q => by
    cases h : M a with
    | none =>
      rw [seen_none h] at q
      exact E.en.nf a o q
    | some n => exact .inr (E.h0 a n h)
  len := by rw [E.en.len, w.length]
/-! nothing of it stands in the store -/
mutual
def flD : D → Bool
  | .non => true
  | .bl _ => true
  | .int _ => true
  | .str _ => true
  | .ptr _ => true
  | .tup xs => flA xs
  | _ => false
def flA : List D → Bool
  | [] => true
  | x :: xs => flD x && flA xs
end
mutual
theorem Rp.off (hT : ∀ a xs, F a = some (.tup xs) → M a = none) : ∀ {v : V} {d : D}, Rp K F v d → flD d = true → Rp K (unseen M F) v d
  | _, _, .non, _ => .non
  | _, _, .bl b, _ => .bl b
  | _, _, .int i, _ => .int i
  | _, _, .str x, _ => .str x
  | _, _, .ptr a, _ => .ptr a
  | _, .tup ds, .tup h r, q => .tup (by
      rw [unseen_none (hT _ _ h)]
      exact h) (RpA.off hT r (by unfold flD at q; exact q))
  | _, .lst _, .lst _ _, q => by unfold flD at q; cases q
  | _, .dic _, .dic _ _ _, q => by unfold flD at q; cases q
  | _, .obj _ _, .obj _ _ _, q => by unfold flD at q; cases q
  | _, .exc _, .exc _, q => by unfold flD at q; cases q
  | _, .scr _, .scr _, q => by unfold flD at q; cases q
theorem RpA.off (hT : ∀ a xs, F a = some (.tup xs) → M a = none) : ∀ {vs : List V} {ds : List D}, RpA K F vs ds → flA ds = true → RpA K (unseen M F) vs ds
  | _, _, .nil, _ => .nil
  | _, d :: ds, .cons r t, q => by
    unfold flA at q
    rw [Bool.and_eq_true] at q
    exact .cons (Rp.off hT r q.1) (RpA.off hT t q.2)
end
/-- back from a view -/
theorem EnM.back {F2 H2 : Hp} (E : EnM K H0 F0 F M H σ G) (E2 : En K H0 F0 F2 H2 σ G') (f2 : Ex (Cy.seen M F H) F2) (g2 : Ex H H2) (n2 : Nw (Cy.seen M F H) F2 H) : EnM K H0 F0 (unseen M F2) M H2 σ G ∧ Ex F (unseen M F2) ∧ Nw F (unseen M F2) H ∧ ∀ a xs, F2 a = some (.tup xs) → M a = none := by
  have k1 : Ex F (unseen M F2) := fun a o q => by
    cases h : M a with
    | none =>
      rw [unseen_none h]
      exact f2 a o (by rw [seen_none h]; exact q)
    | some n =>
      rw [(E.st a n h).1] at q
      cases q
  have k2 : Nw F (unseen M F2) H := fun a o q => by
    cases h : M a with
    | none =>
      rw [unseen_none h] at q
      rcases n2 a o q with z | z
      · rw [seen_none h] at z
        exact .inl z
      · exact .inr z
    | some n =>
      rw [unseen_some h] at q
      cases q
  have k3 : Ex (unseen M F2) H2 := fun a o q => by
    cases h : M a with
    | none =>
      rw [unseen_none h] at q
      exact E2.ef a o q
    | some n =>
      rw [unseen_some h] at q
      cases q
  refine ⟨E.grow k1 g2 k3 k2, k1, k2, fun a xs q => ?_⟩
  cases h : M a with
  | none => rfl
  | some n =>
    obtain ⟨_, o, h2, h3⟩ := E.st a n h
    have h4 := E2.ef a _ q
    rw [g2 _ _ h2] at h4
    cases h4
    exact absurd h3 fun z => z.noTup
end
end Cy

set_option Elab.async false
set_option linter.all false
set_option maxRecDepth 100000
set_option maxHeartbeats 2000000
namespace Cy
open PySem PySem.Spec PyProof.Rows L2 Evl
/-! expressions that look at the store -/
structure EvR (K : PySem.W.Frag) (te : TE) (M : Sto) (G : List Sl) (d : D) : Prop where
  run : ∀ {H0 F0 F H : Hp} {σ : L2.St}, EnM K H0 F0 F M H σ G → ∀ Q : VK, (∀ v F' H', EnM K H0 F0 F' M H' σ G → Ex F F' → Rp K F' v d → Q v H') → te σ H Q
structure TtR (K : PySem.W.Frag) (tt : TT) (M : Sto) (G : List Sl) (b : Bool) : Prop where
  run : ∀ {H0 F0 F H : Hp} {σ : L2.St}, EnM K H0 F0 F M H σ G → ∀ Q : Bool → Hp → Prop, (∀ F' H', EnM K H0 F0 F' M H' σ G → Ex F F' → Q b H') → tt σ H Q
structure EvSR (K : PySem.W.Frag) (ta : TA) (M : Sto) (G : List Sl) (ds : List D) : Prop where
  run : ∀ {H0 F0 F H : Hp} {σ : L2.St}, EnM K H0 F0 F M H σ G → ∀ Q : List V → Hp → Prop, (∀ vs F' H', EnM K H0 F0 F' M H' σ G → Ex F F' → RpA K F' vs ds → Q vs H') → ta σ H Q
/-- a new list, of things that stand beside the store -/
structure EvOR (K : PySem.W.Frag) (te : TE) (M : Sto) (G : List Sl) (l : List D) : Prop where
  run : ∀ {H0 F0 F H : Hp} {σ : L2.St}, EnM K H0 F0 F M H σ G → ∀ Q : VK, (∀ p xs F' H', EnM K H0 F0 F' M H' σ G → Ex F F' → Ex H H' → Nw F F' H → H p = none → F' p = none → H' p = some (.lst xs) → RpA K F' xs l → Q (.ref p) H') → te σ H Q
section
variable {K : PySem.W.Frag} {M M1 M2 : Sto} {G G' G1 : List Sl} {te tb to tx : TE} {ta : TA} {t u : TT} {d a b : D} {ds l : List D} {X : XK}
theorem r_pure (h : EvD K te G d) : EvR K te M G d := ⟨fun {H0 F0 F H σ} E Q q => h E.en Q fun v F1 H1 E1 f1 g1 n1 r1 => q v F1 H1 (E.withG E1 f1 g1 n1) f1 r1⟩
theorem r_view (w : VwG M G G') (h : EvD K te G' d) (hd : flD d = true) : EvR K te M G d := ⟨fun {H0 F0 F H σ} E Q q => h (E.view w) Q fun v F1 H1 E1 f1 g1 n1 r1 => by
  obtain ⟨B, b1, b2, b3⟩ := E.back E1 f1 g1 n1
  exact q v _ H1 B b1 (Rp.off b3 r1 hd)⟩
theorem t_pure {x : Bool} (h : EvTt K t G x) : TtR K t M G x := ⟨fun {H0 F0 F H σ} E Q q => h E.en Q fun F1 H1 E1 f1 g1 n1 => q F1 H1 (E.withG E1 f1 g1 n1) f1⟩
theorem t_view {x : Bool} (w : VwG M G G') (h : EvTt K t G' x) : TtR K t M G x := ⟨fun {H0 F0 F H σ} E Q q => h (E.view w) Q fun F1 H1 E1 f1 g1 n1 => by
  obtain ⟨B, b1, b2, b3⟩ := E.back E1 f1 g1 n1
  exact q _ H1 B b1⟩
theorem o_pure (h : EvO K te G l) : EvOR K te M G l := ⟨fun {H0 F0 F H σ} E Q q => h E.en Q fun p xs F1 H1 E1 f1 g1 n1 hp hf h1 r1 => q p xs F1 H1 (E.withG E1 f1 g1 n1) f1 g1 n1 hp hf h1 r1⟩
theorem o_view (w : VwG M G G') (h : EvO K te G' l) (hd : flA l = true) : EvOR K te M G l := ⟨fun {H0 F0 F H σ} E Q q => h (E.view w) Q fun p xs F1 H1 E1 f1 g1 n1 hp hf h1 r1 => by
  obtain ⟨B, b1, b2, b3⟩ := E.back E1 f1 g1 n1
  exact q p xs _ H1 B b1 g1 b2 hp (by rw [unseen_none (E.free hp)]; exact hf) h1 (RpA.off b3 r1 hd)⟩
theorem r_shareO (h : EvOR K te M G l) : EvR K te M G (.lst l) := ⟨fun {H0 F0 F H σ} E Q q => h.run E Q fun p xs F1 H1 E1 f1 g1 n1 hp hf h1 r1 => by
  have ef : Ex F1 (upd F1 p (.lst xs)) := Ex.new hf
  have e3 : Ex (upd F1 p (.lst xs)) H1 := fun z o y => by
    by_cases hz : z = p
    · subst hz
      rw [upd_same] at y
      cases y
      exact h1
    · rw [upd_ne hz] at y
      exact E1.en.ef z o y
  have nw : Nw F (upd F1 p (.lst xs)) H := fun z o y => by
    by_cases hz : z = p
    · subst hz
      exact .inr hp
    · rw [upd_ne hz] at y
      exact n1 z o y
  exact q _ _ H1 (E.grow (f1.trans ef) g1 e3 nw) (f1.trans ef) (.lst upd_same (r1.mono ef))⟩
theorem r_is (h : EvR K te M G a) (e : a = b) : EvR K te M G b := e ▸ h
theorem tr_is {x y : Bool} (h : TtR K t M G x) (e : x = y) : TtR K t M G y := e ▸ h
theorem sr_nil : EvSR K tNil M G [] := ⟨fun {H0 F0 F H σ} E Q q => q [] F H E (Ex.refl F) .nil⟩
theorem sr_cons {tr : TA} (h : EvR K te M G a) (hr : EvSR K tr M G ds) : EvSR K (tCons te tr) M G (a :: ds) := ⟨fun {H0 F0 F H σ} E Q q =>
  h.run E _ fun v F1 H1 E1 f1 r1 => hr.run E1 _ fun vs F2 H2 E2 f2 r2 => q (v :: vs) F2 H2 E2 (f1.trans f2) (.cons (r1.mono f2) r2)⟩
theorem s_pure {ta : TA} (h : EvS K ta G ds) : EvSR K ta M G ds := ⟨fun {H0 F0 F H σ} E Q q => h E.en Q fun vs F1 H1 E1 f1 g1 n1 r1 => q vs F1 H1 (E.withG E1 f1 g1 n1) f1 r1⟩
theorem r_op {r : R2} {c : D} (h1 : EvR K te M G a) (h2 : EvR K tb M G b) (h3 : Op2 K r a b c) : EvR K (tOp r te tb) M G c := ⟨fun {H0 F0 F H σ} E Q q =>
  h1.run E _ fun v F1 H1 E1 f1 r1 => h2.run E1 _ fun w F2 H2 E2 f2 r2 => h3.run E2.en.ef (r1.mono f2) r2 Q fun z F3 H3 f3 e3 g3 n3 r3 =>
    q z F3 H3 (E2.grow f3 g3 e3 n3) ((f1.trans f2).trans f3) r3⟩
theorem r_cb {r : List V → Hp → VK → Prop} {ta : TA} {c : D} (h : EvSR K ta M G ds) (hr : OpN K r ds c) : EvR K (tCB r ta) M G c := ⟨fun {H0 F0 F H σ} E Q q =>
  h.run E _ fun vs F1 H1 E1 f1 r1 => hr.run E1.en.ef r1 Q fun z F3 H3 f3 e3 g3 n3 r3 => q z F3 H3 (E1.grow f3 g3 e3 n3) (f1.trans f3) r3⟩
theorem r_tup {ta : TA} (h : EvSR K ta M G ds) (hl : ds.length ≤ 100000) : EvR K (tTup ta) M G (.tup ds) := ⟨fun {H0 F0 F H σ} E Q q =>
  h.run E _ fun vs F1 H1 E1 f1 r1 => by
    refine ⟨sz_of (by rw [r1.length]; exact hl), fun p hp => ?_⟩
    have ef : Ex F1 (upd F1 p (.tup vs)) := Ex.new (ex_none E1.en.ef hp)
    exact q _ _ _ (E1.grow ef (Ex.new hp) (ex_upd_both E1.en.ef) (nw_upd hp (Nw.refl F1 H1))) (f1.trans ef) (.tup upd_same (r1.mono ef))⟩
theorem or_lst {ta : TA} (h : EvS K ta G ds) (hl : ds.length ≤ 100000) : EvOR K (tLst ta) M G ds := o_pure (o_lst h hl)
theorem tr_test {x : Bool} (h : EvR K te M G (.bl x)) : TtR K (tTest te) M G x := ⟨fun {H0 F0 F H σ} E Q q => h.run E _ fun v F1 H1 E1 f1 r1 => by
  cases r1
  exact ⟨x, rfl, q F1 H1 E1 f1⟩⟩
theorem tr_B {x : Bool} (h : EvR K te M G (.bl x)) : TtR K (tB te) M G x := ⟨fun {H0 F0 F H σ} E Q q => h.run E _ fun v F1 H1 E1 f1 r1 => by
  cases r1
  exact ⟨x, rfl, q F1 H1 E1 f1⟩⟩
theorem tr_not {x : Bool} (h1 : TtR K t M G x) : TtR K (tNot t) M G (!x) := ⟨fun {H0 F0 F H σ} E Q q => h1.run E _ fun F1 H1 E1 f1 => q F1 H1 E1 f1⟩
theorem tr_and {x y : Bool} (h1 : TtR K t M G x) (h2 : x = true → TtR K u M G y) : TtR K (tAnd t u) M G (x && y) := ⟨fun {H0 F0 F H σ} E Q q => h1.run E _ fun F1 H1 E1 f1 => by
  cases x with
  | true => exact (h2 rfl).run E1 _ fun F2 H2 E2 f2 => q F2 H2 E2 (f1.trans f2)
  | false => exact q F1 H1 E1 f1⟩
theorem tr_or {x y : Bool} (h1 : TtR K t M G x) (h2 : x = false → TtR K u M G y) : TtR K (tOr t u) M G (x || y) := ⟨fun {H0 F0 F H σ} E Q q => h1.run E _ fun F1 H1 E1 f1 => by
  cases x with
  | true => exact q F1 H1 E1 f1
  | false => exact (h2 rfl).run E1 _ fun F2 H2 E2 f2 => q F2 H2 E2 (f1.trans f2)⟩
theorem r_andV {x y : Bool} (h1 : EvR K te M G (.bl x)) (h2 : x = true → EvR K tb M G (.bl y)) : EvR K (tAndV te tb) M G (.bl (x && y)) := ⟨fun {H0 F0 F H σ} E Q q => h1.run E _ fun v F1 H1 E1 f1 r1 => by
  cases r1
  cases x with
  | true => exact ⟨true, rfl, (h2 rfl).run E1 _ fun w F2 H2 E2 f2 r2 => q w F2 H2 E2 (f1.trans f2) r2⟩
  | false => exact ⟨false, rfl, q _ F1 H1 E1 f1 (.bl _)⟩⟩
/-- a field of a thing in the store -/
theorem get_rp {F : Hp} {f : Str} : ∀ {gs : List (Str × V)} {fs : List (Str × D)} {d : D}, gs.map (fun p => p.1) = fs.map (fun p => p.1) → RpA K F (gs.map fun p => p.2) (fs.map fun p => p.2) → fs.lookup f = some d → ∃ v, gs.lookup f = some v ∧ Rp K F v d
  | [], [], _, _, _, h => by cases h
  | [], _ :: _, _, h, _, _ => by cases h
  | _ :: _, [], _, h, _, _ => by cases h
  | (x, v) :: gs, (y, e) :: fs, d, hn, hr, h => by
    have hab : x = y := by
      have := congrArg List.head? hn
      simpa using this
    have hn' : gs.map (fun p => p.1) = fs.map (fun p => p.1) := by
      have := congrArg List.tail hn
      simpa using this
    subst hab
    cases hr with
    | cons r1 r2 =>
      by_cases z : f == x
      · rw [List.lookup_cons, z] at h
        rw [List.lookup_cons, z]
        cases h
        exact ⟨v, rfl, r1⟩
      · have z' : (f == x) = false := by simpa using z
        rw [List.lookup_cons, z'] at h ⊢
        exact get_rp hn' r2 h
theorem r_fld {p C : Addr} {fs : List (Str × D)} {f : Str} (h : EvR K te M G (.ptr p)) (hm : M p = some (.ins C fs)) (hc : Cls K C) (hn : NoAttr K C f) (hf : fs.lookup f = some d) : EvR K (tFld K te f) M G d := ⟨fun {H0 F0 F H σ} E Q q =>
  h.run E _ fun v F1 H1 E1 f1 r1 => by
    cases r1
    obtain ⟨_, o, h2, h3⟩ := E1.st p _ hm
    cases h3 with
    | ins h4 h5 =>
      obtain ⟨w, k1, k2⟩ := get_rp h4 h5 hf
      exact ⟨p, C, _, _, w, rfl, h2, hc, hn, k1, q w F1 H1 E1 f1 k2⟩⟩
end

/-! expressions that change the store, or raise -/
structure EvM (K : PySem.W.Frag) (te : TE) (X : XK) (M : Sto) (G : List Sl) (P : Res → Sto → Prop) : Prop where
  run : ∀ {H0 F0 F H : Hp} {σ : L2.St}, EnM K H0 F0 F M H σ G → ∀ Q : VK, (∀ d M', P (.ok d) M' → ∀ v F' H', EnM K H0 F0 F' M' H' σ G → Ex F F' → Rp K F' v d → Q v H') →
    (∀ C M', P (.exc C) M' → ∀ F' H', EnM K H0 F0 F' M' H' σ G → Ex F F' → X (.ref C) none H') → te σ H Q
/-- what a def leaves of the store -/
structure RoM (K : PySem.W.Frag) (H0 F0 F' : Hp) (M' : Sto) (H' : Hp) : Prop where
  ro : Ro H0 F0 F' H'
  st : Cells K F' M' H'
  h0 : ∀ a n, M' a = some n → H0 a = none
theorem EnM.rom {K : PySem.W.Frag} {H0 F0 F H : Hp} {M : Sto} {σ : L2.St} {G : List Sl} (E : EnM K H0 F0 F M H σ G) : RoM K H0 F0 F M H := ⟨E.en.ro, E.st, E.h0⟩
def PostM (K : PySem.W.Frag) (H0 F0 F : Hp) (o : Out) (M : Sto) (E : Ends) : Prop := match o with
  | .nx G => ∀ σ F' H', EnM K H0 F0 F' M H' σ G → Ex F F' → E.nx σ H'
  | .bk G => ∀ σ F' H', EnM K H0 F0 F' M H' σ G → Ex F F' → E.bk σ H'
  | .ct G => ∀ σ F' H', EnM K H0 F0 F' M H' σ G → Ex F F' → E.ct σ H'
  | .rt d => ∀ v F' H', RoM K H0 F0 F' M H' → Rp K F' v d → E.rt v H'
  | .ro l => ∀ p xs F' H', RoM K H0 F0 F' M H' → H0 p = none → F' p = none → M p = none → H' p = some (.lst xs) → RpA K F' xs l → E.rt (.ref p) H'
  | .ro2 _ _ => False
  | .ex C X => ∀ F' H', RoM K H0 F0 F' M H' → X (.ref C) none H'
structure StM (K : PySem.W.Frag) (t : TS) (M : Sto) (G : List Sl) (P : Out → Sto → Prop) : Prop where
  run : ∀ {H0 F0 F H : Hp} {σ : L2.St} {E : Ends}, EnM K H0 F0 F M H σ G → (∀ o M', P o M' → PostM K H0 F0 F o M' E) → t E σ H
section
variable {K : PySem.W.Frag} {M M1 M2 : Sto} {G G' G1 : List Sl} {te tb to tx : TE} {ta : TA} {t u : TT} {tu tw tz : TS} {d a b : D} {ds l : List D} {X : XK} {P P1 : Out → Sto → Prop} {R : Res → Sto → Prop} {o : Out} {g : TG}
theorem PostM.weak {H0 F0 F F1 : Hp} {E : Ends} (h : PostM K H0 F0 F o M E) (f : Ex F F1) : PostM K H0 F0 F1 o M E := by
  cases o with
  | nx G => exact fun σ F' H' e x => h σ F' H' e (f.trans x)
  | bk G => exact fun σ F' H' e x => h σ F' H' e (f.trans x)
  | ct G => exact fun σ F' H' e x => h σ F' H' e (f.trans x)
  | rt d => exact h
  | ro l => exact h
  | ro2 l m => exact h
  | ex C X => exact h
theorem m_of (h : StM K tu M G P1) (hp : ∀ o M', P1 o M' → P o M') : StM K tu M G P := ⟨fun {H0 F0 F H σ E} En p => h.run En fun o M' q => p o M' (hp o M' q)⟩
theorem m_seq (h1 : StM K tu M G P1) (h2 : ∀ G1 M1, P1 (.nx G1) M1 → StM K tw M1 G1 P) (h3 : ∀ o M1, P1 o M1 → (∀ G, o ≠ .nx G) → P o M1) : StM K (tSeq tu tw) M G P := ⟨fun {H0 F0 F H σ E} En p => h1.run (E := { E with nx := tw E }) En fun o M' q => by
  cases o with
  | nx G => exact fun σ1 F1 H1 E1 f1 => (h2 G M' q).run E1 fun o M2 q2 => (p o M2 q2).weak f1
  | bk G => exact p _ _ (h3 _ M' q fun _ z => nomatch z)
  | ct G => exact p _ _ (h3 _ M' q fun _ z => nomatch z)
  | rt d => exact p _ _ (h3 _ M' q fun _ z => nomatch z)
  | ro l => exact p _ _ (h3 _ M' q fun _ z => nomatch z)
  | ro2 l m => exact p _ _ (h3 _ M' q fun _ z => nomatch z)
  | ex C X => exact p _ _ (h3 _ M' q fun _ z => nomatch z)⟩
/-- exactly so -/
def Only (o : Out) (M : Sto) : Out → Sto → Prop := fun o' M' => o' = o ∧ M' = M
theorem m_seq1 (h1 : StM K tu M G (Only (.nx G1) M1)) (h2 : StM K tw M1 G1 P) : StM K (tSeq tu tw) M G P := m_seq h1 (fun G2 M2 q => by
  obtain ⟨q1, rfl⟩ := q
  cases q1
  exact h2) fun o M2 q hn => absurd q.1 (hn _)
theorem m_stop (h1 : StM K tu M G P1) (hn : ∀ G M', ¬ P1 (.nx G) M') (hp : ∀ o M', P1 o M' → P o M') : StM K (tSeq tu tw) M G P := m_seq h1 (fun G M' q => absurd q (hn G M')) fun o M' q _ => hp o M' q
theorem m_next (h : P (.nx G) M) : StM K tNext M G P := ⟨fun {H0 F0 F H σ E} En p => p _ _ h σ F H En (Ex.refl F)⟩
theorem m_if {x : Bool} (h : TtR K t M G x) (h1 : x = true → StM K tu M G P) (h2 : x = false → StM K tw M G P) : StM K (tIfS t tu tw) M G P := ⟨fun {H0 F0 F H σ E} En p => h.run En _ fun F1 H1 E1 f1 => by
  cases x with
  | true =>
    show tu E σ H1
    exact (h1 rfl).run E1 fun o M' q => (p o M' q).weak f1
  | false =>
    show tw E σ H1
    exact (h2 rfl).run E1 fun o M' q => (p o M' q).weak f1⟩
theorem m_pass (h : TtR K t M G false) (h2 : StM K tw M G P) : StM K (tSeq (tIfS t tu tNext) tw) M G P := m_seq1 (m_if h (fun q => nomatch q) (fun _ => m_next ⟨rfl, rfl⟩)) h2
theorem m_fire (h : TtR K t M G true) (h2 : StM K tu M G P) (hn : ∀ G M', ¬ P (.nx G) M') : StM K (tSeq (tIfS t tu tNext) tw) M G P := m_stop (m_if h (fun _ => h2) (fun q => nomatch q)) hn fun _ _ q => q
theorem m_ret (h : EvR K te M G d) (hp : P (.rt d) M) : StM K (tRet te) M G P := ⟨fun {H0 F0 F H σ E} En p => h.run En _ fun v F1 H1 E1 f1 r1 => p _ _ hp v F1 H1 E1.rom r1⟩
theorem m_retO (h : EvOR K te M G l) (hp : P (.ro l) M) : StM K (tRet te) M G P := ⟨fun {H0 F0 F H σ E} En p => h.run En _ fun q xs F1 H1 E1 f1 g1 n1 hq hf h1 r1 => p _ _ hp q xs F1 H1 E1.rom (ex_none En.en.e0 hq) hf (En.free hq) h1 r1⟩
theorem m_retM (h : EvM K te X M G R) (hp : ∀ d M', R (.ok d) M' → P (.rt d) M') (hx : ∀ C M', R (.exc C) M' → P (.ex C X) M') : StM K (tRet te) M G P := ⟨fun {H0 F0 F H σ E} En p => h.run En _ (fun d M' q v F1 H1 E1 f1 r1 => p _ _ (hp d M' q) v F1 H1 E1.rom r1) fun C M' q F1 H1 E1 f1 => p _ _ (hx C M' q) F1 H1 E1.rom⟩
theorem m_asg {i : Nat} (h : EvR K te M G d) (hp : P (.nx (G.set i (.dat d))) M) : StM K (tAsg te (gName i)) M G P := ⟨fun {H0 F0 F H σ E} En p => h.run En _ fun v F1 H1 E1 f1 r1 => p _ _ hp _ F1 H1 (E1.setD r1 i) f1⟩
/-- targets that are names alone -/
structure TgM (K : PySem.W.Frag) (g : TG) (G : List Sl) (d : D) (G' : List Sl) : Prop where
  run : ∀ {H0 F0 F H : Hp} {M : Sto} {σ : L2.St} {v : V}, EnM K H0 F0 F M H σ G → Rp K F v d → ∀ Q : L2.St → Hp → Prop, (∀ σ', EnM K H0 F0 F M H σ' G' → Q σ' H) → g v σ H Q
structure TgsM (K : PySem.W.Frag) (g : TGs) (G : List Sl) (ds : List D) (G' : List Sl) : Prop where
  run : ∀ {H0 F0 F H : Hp} {M : Sto} {σ : L2.St} {vs : List V}, EnM K H0 F0 F M H σ G → RpA K F vs ds → ∀ Q : L2.St → Hp → Prop, (∀ σ', EnM K H0 F0 F M H σ' G' → Q σ' H) → g vs σ H Q
theorem gm_name {i : Nat} : TgM K (gName i) G d (G.set i (.dat d)) := ⟨fun {H0 F0 F H M σ v} E r Q q => q _ (E.setD r i)⟩
theorem gms_nil : TgsM K gNil G [] G := ⟨fun {H0 F0 F H M σ vs} E r Q q => by
  cases r
  exact ⟨rfl, q σ E⟩⟩
theorem gms_cons {g : TG} {gs : TGs} {G2 : List Sl} (h1 : TgM K g G d G1) (h2 : TgsM K gs G1 ds G2) : TgsM K (gCons g gs) G (d :: ds) G2 := ⟨fun {H0 F0 F H M σ vs} E r Q q => by
  cases r with
  | cons r1 r2 => exact ⟨_, _, rfl, h1.run E r1 _ fun σ1 E1 => h2.run E1 r2 Q q⟩⟩
theorem gm_tup {gs : TGs} {n : Nat} (h : TgsM K gs G ds G1) (hn : ds.length = n) : TgM K (gTup K n gs) G (.tup ds) G1 := ⟨fun {H0 F0 F H M σ v} E r Q q => by
  cases r with
  | tup ha rs => exact ⟨_, _, rfl, Or.inl (Or.inl (E.en.ef _ _ ha)), by rw [rs.length]; exact hn, h.run E rs Q q⟩⟩
theorem m_asgG (h : EvR K te M G d) (hg : TgM K g G d G1) (hp : P (.nx G1) M) : StM K (tAsg te g) M G P := ⟨fun {H0 F0 F H σ E} En p => h.run En _ fun v F1 H1 E1 f1 r1 => hg.run E1 r1 _ fun σ2 E2 => p _ _ hp σ2 F1 H1 E2 f1⟩
theorem m_asgM (h : EvM K te X M G R) (G2 : D → List Sl) (hg : ∀ d M', R (.ok d) M' → TgM K g G d (G2 d)) (hp : ∀ d M', R (.ok d) M' → P (.nx (G2 d)) M') (hx : ∀ C M', R (.exc C) M' → P (.ex C X) M') : StM K (tAsg te g) M G P := ⟨fun {H0 F0 F H σ E} En p => h.run En _ (fun d M' q v F1 H1 E1 f1 r1 => (hg d M' q).run E1 r1 _ fun σ2 E2 => p _ _ (hp d M' q) σ2 F1 H1 E2 f1) fun C M' q F1 H1 E1 f1 => p _ _ (hx C M' q) F1 H1 E1.rom⟩
theorem m_asgO {i : Nat} (h : EvOR K te M G l) (hp : P (.nx (G.set i (.own (.lst l)))) M) : StM K (tAsg te (gName i)) M G P := ⟨fun {H0 F0 F H σ E} En p => h.run En _ fun q xs F1 H1 E1 f1 g1 n1 hq hf h1 r1 => by
  have e2 := E1.en.setO hf (ex_none En.en.e0 hq) h1 (.lst r1) i fun j lj hj _ hs => En.freeO hq j lj hj hs
  refine p _ _ hp _ F1 H1 ⟨e2, E1.st, E1.h0, fun j w p2 k1 k2 => ?_⟩ f1
  by_cases hij : i = j
  · subst hij
    have hl : i < σ.length := by
      have := (List.getElem?_eq_some_iff.mp k2).1
      rw [List.length_set] at this
      exact this
    rw [List.getElem?_set_self hl] at k2
    cases k2
    exact En.free hq
  · rw [List.getElem?_set_ne hij] at k1 k2
    exact E1.ow j w p2 k1 k2⟩
theorem m_drop (h : EvR K te M G d) (hp : P (.nx G) M) : StM K (tDrop te) M G P := ⟨fun {H0 F0 F H σ E} En p => h.run En _ fun v F1 H1 E1 f1 r1 => p _ _ hp σ F1 H1 E1 f1⟩
theorem m_dropM (h : EvM K te X M G R) (hp : ∀ d M', R (.ok d) M' → P (.nx G) M') (hx : ∀ C M', R (.exc C) M' → P (.ex C X) M') : StM K (tDrop te) M G P := ⟨fun {H0 F0 F H σ E} En p => h.run En _ (fun d M' q v F1 H1 E1 f1 r1 => p _ _ (hp d M' q) σ F1 H1 E1 f1) fun C M' q F1 H1 E1 f1 => p _ _ (hx C M' q) F1 H1 E1.rom⟩
theorem m_raise0 {C : Addr} (hp : P (.ex C X) M) : StM K (tRaise0 C X) M G P := ⟨fun {H0 F0 F H σ E} En p => p _ _ hp F H En.rom⟩
theorem m_weak (h : StM K tu M G P1) (hp : ∀ o M', P1 o M' → (∃ G1 G2, o = .nx G1 ∧ Wk G1 G2 ∧ P (.nx G2) M') ∨ P o M') : StM K tu M G P := ⟨fun {H0 F0 F H σ E} En p => h.run En fun o M' q => by
  rcases hp o M' q with ⟨G1, G2, rfl, w, k⟩ | k
  · exact fun σ F' H' E' f => p _ _ k σ F' H' (E'.weak w) f
  · exact p _ _ k⟩
theorem m_from (h : StM K tu M G1 P) (w : Wk G G1) : StM K tu M G P := ⟨fun {H0 F0 F H σ E} En p => h.run (En.weak w) p⟩
/-- a read only expression -/
theorem e_mr (h : EvR K te M G d) (hp : R (.ok d) M) : EvM K te X M G R := ⟨fun {H0 F0 F H σ} E Q q qx => h.run E Q fun v F1 H1 E1 f1 r1 => q _ _ hp v F1 H1 E1 f1 r1⟩
theorem e_mO (h : EvOR K te M G l) (hp : ∀ p, M p = none → R (.ok (.ptr p)) (updM M p (.lst l))) : EvM K te X M G R := ⟨fun {H0 F0 F H σ} E Q q qx => h.run E Q fun p xs F1 H1 E1 f1 g1 n1 hq hf h1 r1 =>
  q _ _ (hp p (E.free hq)) (.ref p) F1 H1 (E1.new h1 hf (ex_none E.en.e0 hq) (fun i w hi hs => E.freeO hq i w hi hs) (.lst r1)) f1 (.ptr p)⟩
theorem e_mdnew (hp : ∀ p, M p = none → R (.ok (.ptr p)) (updM M p (.dic []))) : EvM K tDNewK X M G R := ⟨fun {H0 F0 F H σ} E Q q qx p hq => by
  have hF : F p = none := ex_none E.en.ef hq
  have E1 := E.grow (Ex.refl F) (Ex.new (o := .dK []) hq) (E.en.ef.trans (Ex.new hq)) (Nw.refl F H)
  exact q _ _ (hp p (E.free hq)) (.ref p) F _ (E1.new upd_same hF (ex_none E.en.e0 hq) (fun i w hi hs => E.freeO hq i w hi hs) (.dic rfl .nil)) (Ex.refl F) (.ptr p)⟩
/-! statements that know nothing of the store -/
/-- H0 with the cells of the store -/
def held (M : Sto) (H0 H : Hp) : Hp := fun a => match M a with
  | some _ => H a
  | none => H0 a
theorem held_some {H0 H : Hp} {a : Addr} {n : Nd} (h : M a = some n) : held M H0 H a = H a := by
  unfold held
  rw [h]
theorem held_none {H0 H : Hp} {a : Addr} (h : M a = none) : held M H0 H a = H0 a := by
  unfold held
  rw [h]
section
variable {H0 F0 F F' H H' : Hp} {σ σ' : L2.St}
theorem EnM.h0le (E : EnM K H0 F0 F M H σ G) : Ex H0 (held M H0 H) := fun a x q => by
  cases hm : M a with
  | none => rw [held_none hm]; exact q
  | some n =>
    rw [E.h0 a n hm] at q
    cases q
theorem EnM.off (E : EnM K H0 F0 F M H σ G) {a : Addr} (h : held M H0 H a = none) : M a = none := by
  cases hm : M a with
  | none => rfl
  | some n =>
    obtain ⟨_, x, h4, _⟩ := E.st a n hm
    rw [held_some hm, h4] at h
    cases h
theorem EnM.start (E : EnM K H0 F0 F M H σ G) : Cy.En K (held M H0 H) F F H σ G where
  dat := E.en.dat
  own := fun i w q => by
    obtain ⟨p, x, a, b, c, d, r⟩ := E.en.own i w q
    exact ⟨p, x, a, b, by rw [held_none (E.ow i w p q a)]; exact c, d, r⟩
  dis := E.en.dis
  e0 := fun a x q => by
    cases hm : M a with
    | none =>
      rw [held_none hm] at q
      exact E.en.e0 a x q
    | some n =>
      rw [held_some hm] at q
      exact q
  ef := E.en.ef
  e1 := Ex.refl F
  nf := fun a x q => .inl q
  len := E.en.len
theorem EnM.ended (E : EnM K H0 F0 F M H σ G) (ro : Ro (held M H0 H) F F' H') : RoM K H0 F0 F' M H' where
  ro := ⟨E.h0le.trans ro.e0, ro.ef, E.en.e1.trans ro.e1, fun a y q => by
    rcases ro.nf a y q with z | z
    · exact E.en.nf a y z
    · exact .inr (ex_none E.h0le z)⟩
  st := fun a n hm => by
    obtain ⟨h3, x, h4, h5⟩ := E.st a n hm
    refine ⟨?_, x, ro.e0 a x (by rw [held_some hm]; exact h4), h5.mono ro.e1⟩
    cases q : F' a with
    | none => rfl
    | some y =>
      rcases ro.nf a y q with z | z
      · rw [h3] at z
        cases z
      · rw [held_some hm, h4] at z
        cases z
  h0 := E.h0
theorem EnM.went (E : EnM K H0 F0 F M H σ G) (E1 : Cy.En K (held M H0 H) F F' H' σ' G1) : EnM K H0 F0 F' M H' σ' G1 where
  en := ⟨E1.dat, fun i w q => by
      obtain ⟨p, x, a, b, c, d, r⟩ := E1.own i w q
      exact ⟨p, x, a, b, ex_none E.h0le c, d, r⟩, E1.dis, E.h0le.trans E1.e0, E1.ef, E.en.e1.trans E1.e1, (E.ended E1.ro).ro.nf, E1.len⟩
  st := (E.ended E1.ro).st
  h0 := E.h0
  ow := fun i w p q1 q2 => by
    obtain ⟨p2, x, a, b, c, d, r⟩ := E1.own i w q1
    rw [q2] at a
    cases a
    exact E.off c
end
theorem m_lift (h : StD K tu G o) (h2 : ∀ l m, o ≠ .ro2 l m) (hp : P o M) : StM K tu M G P := ⟨fun {H0 F0 F H σ E} En p => h.run En.start (by
  have q := p _ _ hp
  cases o with
  | nx G => exact fun σ F' H' E' f => q σ F' H' (En.went E') f
  | bk G => exact fun σ F' H' E' f => q σ F' H' (En.went E') f
  | ct G => exact fun σ F' H' E' f => q σ F' H' (En.went E') f
  | rt d => exact fun v F' H' ro r => q v F' H' (En.ended ro) r
  | ro l => exact fun p xs F' H' ro k1 k2 k3 k4 => q p xs F' H' (En.ended ro) (ex_none En.h0le k1) k2 (En.off k1) k3 k4
  | ro2 l m => exact absurd rfl (h2 l m)
  | ex C X => exact fun F' H' ro => q F' H' (En.ended ro))⟩
end
end Cy

set_option Elab.async false
set_option linter.all false
set_option maxRecDepth 100000
set_option maxHeartbeats 2000000
namespace Cy
open PySem PySem.Spec PyProof.Rows L2 Evl
/-! dicts by their keys -/
def valE (es : List (Key × D)) (k : Key) : Option D := (es.find? fun kv => decide (kv.1 = k)).map fun kv => kv.2
def putE (es : List (Key × D)) (k : Key) (d : D) : List (Key × D) := if (es.any fun kv => decide (kv.1 = k)) = true then es.map fun kv => if kv.1 = k then (kv.1, d) else kv else es ++ [(k, d)]
def dropE (es : List (Key × D)) (k : Key) : List (Key × D) := es.filter fun kv => decide (kv.1 ≠ k)
theorem valE_nil {k : Key} : valE [] k = none := rfl
theorem valE_pos {p : Key × D} {r : List (Key × D)} {k : Key} (e : p.1 = k) : valE (p :: r) k = some p.2 := by simp [valE, List.find?_cons, e]
theorem valE_neg {p : Key × D} {r : List (Key × D)} {k : Key} (e : ¬ p.1 = k) : valE (p :: r) k = valE r k := by simp [valE, List.find?_cons, e]
def keyD : Key → D
  | .inl i => .int i
  | .inr x => .str x
section
variable {K : PySem.W.Frag} {F : Hp}
theorem key_rp {k : Key} {v : V} (h : Rp K F v (keyD k)) : v = kV k := by
  cases k with
  | inl i => exact rp_int h
  | inr x => exact rp_str h
theorem rp_key (k : Key) : Rp K F (kV k) (keyD k) := by
  cases k with
  | inl i => exact .int i
  | inr x => exact .str x
theorem valE_rp {k : Key} : ∀ {kvs : List (Key × V)} {es : List (Key × D)}, kvs.map (fun p => p.1) = es.map (fun p => p.1) → RpA K F (kvs.map fun p => p.2) (es.map fun p => p.2) → (∀ d, valE es k = some d → ∃ v, valV kvs k = some v ∧ Rp K F v d) ∧ (valE es k = none → valV kvs k = none)
  | [], [], _, _ => ⟨fun d h => (nomatch h), fun _ => rfl⟩
  | [], _ :: _, h, _ => by cases h
  | _ :: _, [], h, _ => by cases h
  | (a, u) :: kvs, (b, e) :: es, hn, hr => by
    have hab : a = b := by
      have := congrArg List.head? hn
      simpa using this
    have hn' : kvs.map (fun p => p.1) = es.map (fun p => p.1) := by
      have := congrArg List.tail hn
      simpa using this
    subst hab
    have hr' : RpA K F (u :: kvs.map fun p => p.2) (e :: es.map fun p => p.2) := hr
    cases hr' with
    | cons r1 r2 =>
      by_cases z : a = k
      · refine ⟨fun d h => ?_, fun h => ?_⟩
        · rw [valE_pos (p := (a, e)) z] at h
          cases h
          exact ⟨u, valV_pos (p := (a, u)) z, r1⟩
        · rw [valE_pos (p := (a, e)) z] at h
          cases h
      · rw [valE_neg (p := (a, e)) z, valV_neg (p := (a, u)) z]
        exact valE_rp hn' r2
theorem any_keys {k : Key} : ∀ {kvs : List (Key × V)} {es : List (Key × D)}, kvs.map (fun p => p.1) = es.map (fun p => p.1) → (kvs.any fun kv => decide (kv.1 = k)) = es.any fun kv => decide (kv.1 = k)
  | [], [], _ => rfl
  | [], _ :: _, h => by cases h
  | _ :: _, [], h => by cases h
  | (a, u) :: kvs, (b, e) :: es, hn => by
    have hab : a = b := by
      have := congrArg List.head? hn
      simpa using this
    have hn' : kvs.map (fun p => p.1) = es.map (fun p => p.1) := by
      have := congrArg List.tail hn
      simpa using this
    subst hab
    rw [List.any_cons, List.any_cons, any_keys hn']
theorem repl_rp {k : Key} {v : V} {d : D} (r : Rp K F v d) : ∀ {kvs : List (Key × V)} {es : List (Key × D)}, kvs.map (fun p => p.1) = es.map (fun p => p.1) → RpA K F (kvs.map fun p => p.2) (es.map fun p => p.2) →
    (kvs.map fun kv => if kv.1 = k then (kv.1, v) else kv).map (fun p => p.1) = (es.map fun kv => if kv.1 = k then (kv.1, d) else kv).map (fun p => p.1) ∧ RpA K F ((kvs.map fun kv => if kv.1 = k then (kv.1, v) else kv).map fun p => p.2) ((es.map fun kv => if kv.1 = k then (kv.1, d) else kv).map fun p => p.2)
  | [], [], _, _ => ⟨rfl, .nil⟩
  | [], _ :: _, h, _ => by cases h
  | _ :: _, [], h, _ => by cases h
  | (a, u) :: kvs, (b, e) :: es, hn, hr => by
    have hab : a = b := by
      have := congrArg List.head? hn
      simpa using this
    have hn' : kvs.map (fun p => p.1) = es.map (fun p => p.1) := by
      have := congrArg List.tail hn
      simpa using this
    subst hab
    have hr' : RpA K F (u :: kvs.map fun p => p.2) (e :: es.map fun p => p.2) := hr
    cases hr' with
    | cons r1 r2 =>
      obtain ⟨i1, i2⟩ := repl_rp r hn' r2
      by_cases z : a = k
      · refine ⟨?_, ?_⟩
        · rw [List.map_cons, List.map_cons, List.map_cons, List.map_cons, i1, if_pos z, if_pos z]
        · rw [List.map_cons, List.map_cons, List.map_cons, List.map_cons, if_pos z, if_pos z]
          exact .cons r i2
      · refine ⟨?_, ?_⟩
        · rw [List.map_cons, List.map_cons, List.map_cons, List.map_cons, i1, if_neg z, if_neg z]
        · rw [List.map_cons, List.map_cons, List.map_cons, List.map_cons, if_neg z, if_neg z]
          exact .cons r1 i2
theorem putE_rp {k : Key} {v : V} {d : D} (r : Rp K F v d) {kvs : List (Key × V)} {es : List (Key × D)} (hn : kvs.map (fun p => p.1) = es.map (fun p => p.1)) (hr : RpA K F (kvs.map fun p => p.2) (es.map fun p => p.2)) :
    (putK kvs k v).map (fun p => p.1) = (putE es k d).map (fun p => p.1) ∧ RpA K F ((putK kvs k v).map fun p => p.2) ((putE es k d).map fun p => p.2) := by
  unfold putK putE
  rw [any_keys hn]
  split
  · exact repl_rp r hn hr
  · rw [List.map_append, List.map_append, List.map_append, List.map_append, hn]
    exact ⟨rfl, hr.app (.cons r .nil)⟩
theorem dropE_rp {k : Key} : ∀ {kvs : List (Key × V)} {es : List (Key × D)}, kvs.map (fun p => p.1) = es.map (fun p => p.1) → RpA K F (kvs.map fun p => p.2) (es.map fun p => p.2) →
    (dropK kvs k).map (fun p => p.1) = (dropE es k).map (fun p => p.1) ∧ RpA K F ((dropK kvs k).map fun p => p.2) ((dropE es k).map fun p => p.2)
  | [], [], _, _ => ⟨rfl, .nil⟩
  | [], _ :: _, h, _ => by cases h
  | _ :: _, [], h, _ => by cases h
  | (a, u) :: kvs, (b, e) :: es, hn, hr => by
    have hab : a = b := by
      have := congrArg List.head? hn
      simpa using this
    have hn' : kvs.map (fun p => p.1) = es.map (fun p => p.1) := by
      have := congrArg List.tail hn
      simpa using this
    subst hab
    have hr' : RpA K F (u :: kvs.map fun p => p.2) (e :: es.map fun p => p.2) := hr
    cases hr' with
    | cons r1 r2 =>
      obtain ⟨i1, i2⟩ := dropE_rp (k := k) hn' r2
      unfold dropK dropE at *
      by_cases z : a = k
      · have z1 : decide ((a, u).1 ≠ k) = false := decide_eq_false (fun q => q z)
        have z2 : decide ((a, e).1 ≠ k) = false := decide_eq_false (fun q => q z)
        rw [List.filter_cons, List.filter_cons, z1]
        exact ⟨i1, i2⟩
      · have z1 : decide ((a, u).1 ≠ k) = true := decide_eq_true z
        have z2 : decide ((a, e).1 ≠ k) = true := decide_eq_true z
        rw [List.filter_cons, List.filter_cons, z1]
        exact ⟨by rw [if_pos rfl, if_pos rfl, List.map_cons, List.map_cons, i1], .cons r1 i2⟩
end
section
variable {K : PySem.W.Frag} {M M1 M2 : Sto} {G G' G1 : List Sl} {te td ty tv to tx : TE} {ta tr : TA} {t u : TT} {tu tw tz : TS} {d a b : D} {ds l : List D} {X : XK} {P P1 : Out → Sto → Prop} {R : Res → Sto → Prop} {o : Out} {g : TG} {es : List (Key × D)} {k : Key} {C : Addr}
theorem e_dget (h : EvD K td G (.dic es)) (h2 : EvD K ty G (keyD k)) (hk : valE es k = some d) : EvD K (tDGet td ty) G d := .mk fun {H0 F0 F H σ} E Q q =>
  h E _ fun v F1 H1 E1 f1 g1 n1 r1 => h2 E1 _ fun w F2 H2 E2 f2 g2 n2 r2 => by
    cases r1 with
    | dic ha hn hr =>
      obtain ⟨v, k1, k2⟩ := (valE_rp hn hr).1 d hk
      have hw := key_rp r2
      subst hw
      exact ⟨_, v, rfl, by rw [← k1]; exact DGet.k (E2.ef _ _ (f2 _ _ ha)), q v F2 H2 E2 (f1.trans f2) (g1.trans g2) (n1.trans n2 g1) (k2.mono f2)⟩
theorem e_din (h2 : EvD K ty G (keyD k)) (h : EvD K td G (.dic es)) : EvD K (tDIn ty td) G (.bl (valE es k).isSome) := .mk fun {H0 F0 F H σ} E Q q =>
  h2 E _ fun w F1 H1 E1 f1 g1 n1 r2 => h E1 _ fun v F2 H2 E2 f2 g2 n2 r1 => by
    cases r1 with
    | dic ha hn hr =>
      have hw := key_rp r2
      subst hw
      have he : ∀ kvs : List (Key × V), kvs.map (fun p => p.1) = es.map (fun p => p.1) → RpA K F2 (kvs.map fun p => p.2) (es.map fun p => p.2) → (valV kvs k).isSome = (valE es k).isSome := fun kvs hn hr => by
        cases q : valE es k with
        | none =>
          rw [(valE_rp hn hr).2 q]
          rfl
        | some d =>
          obtain ⟨v, k1, _⟩ := (valE_rp hn hr).1 d q
          rw [k1]
          rfl
      refine ⟨_, _, rfl, DGet.k (E2.ef _ _ ha), ?_⟩
      rw [he _ hn hr]
      exact q _ F2 H2 E2 (f1.trans f2) (g1.trans g2) (n1.trans n2 g1) (.bl _)
theorem e_dnotin (h2 : EvD K ty G (keyD k)) (h : EvD K td G (.dic es)) : EvD K (tDNotIn ty td) G (.bl (!(valE es k).isSome)) := .mk fun {H0 F0 F H σ} E Q q =>
  h2 E _ fun w F1 H1 E1 f1 g1 n1 r2 => h E1 _ fun v F2 H2 E2 f2 g2 n2 r1 => by
    cases r1 with
    | dic ha hn hr =>
      have hw := key_rp r2
      subst hw
      have he : ∀ kvs : List (Key × V), kvs.map (fun p => p.1) = es.map (fun p => p.1) → RpA K F2 (kvs.map fun p => p.2) (es.map fun p => p.2) → (valV kvs k).isSome = (valE es k).isSome := fun kvs hn hr => by
        cases q : valE es k with
        | none =>
          rw [(valE_rp hn hr).2 q]
          rfl
        | some d =>
          obtain ⟨v, k1, _⟩ := (valE_rp hn hr).1 d q
          rw [k1]
          rfl
      refine ⟨_, _, rfl, DGet.k (E2.ef _ _ ha), ?_⟩
      rw [he _ hn hr]
      exact q _ F2 H2 E2 (f1.trans f2) (g1.trans g2) (n1.trans n2 g1) (.bl _)
theorem r_dget (h : EvR K td M G (.dic es)) (h2 : EvR K ty M G (keyD k)) (hk : valE es k = some d) : EvR K (tDGet td ty) M G d := ⟨fun {H0 F0 F H σ} E Q q =>
  h.run E _ fun v F1 H1 E1 f1 r1 => h2.run E1 _ fun w F2 H2 E2 f2 r2 => by
    cases r1 with
    | dic ha hn hr =>
      obtain ⟨v, k1, k2⟩ := (valE_rp hn hr).1 d hk
      have hw := key_rp r2
      subst hw
      exact ⟨_, v, rfl, by rw [← k1]; exact DGet.k (E2.en.ef _ _ (f2 _ _ ha)), q v F2 H2 E2 (f1.trans f2) (k2.mono f2)⟩⟩
theorem r_dgetP {p : Addr} (h : EvR K td M G (.ptr p)) (hm : M p = some (.dic es)) (h2 : EvR K ty M G (keyD k)) (hk : valE es k = some d) : EvR K (tDGet td ty) M G d := ⟨fun {H0 F0 F H σ} E Q q =>
  h.run E _ fun v F1 H1 E1 f1 r1 => h2.run E1 _ fun w F2 H2 E2 f2 r2 => by
    cases r1
    obtain ⟨_, o, ha, hb⟩ := E2.st p _ hm
    cases hb with
    | dic hn hr =>
      obtain ⟨v, k1, k2⟩ := (valE_rp hn hr).1 d hk
      have hw := key_rp r2
      subst hw
      exact ⟨_, v, rfl, by rw [← k1]; exact DGet.k ha, q v F2 H2 E2 (f1.trans f2) k2⟩⟩
/-! orders that change one cell -/
theorem m_fld {p : Addr} {f : Str} (h : EvM K tv X M G R) (ho : ∀ d M', R (.ok d) M' → EvR K to M' G (.ptr p) ∧ ∃ fs, M' p = some (.ins C fs) ∧ fs.length < 1000 ∧ P (.nx G) (updM M' p (.ins C (putD f d fs)))) (hc : Cls K C) (hn : NoAttr K C f) (hx : ∀ C M', R (.exc C) M' → P (.ex C X) M') :
    StM K (sFld K to tv f) M G P := ⟨fun {H0 F0 F H σ E} En pp => h.run En _ (fun d M' q v F1 H1 E1 f1 r1 => by
  obtain ⟨h1, fs, h2, h3, h4⟩ := ho d M' q
  refine h1.run E1 _ fun w F2 H2 E2 f2 r2 => ?_
  cases r2
  obtain ⟨_, o, k1, k2⟩ := E2.st p _ h2
  cases k2 with
  | ins k3 k4 =>
    refine ⟨p, C, _, _, rfl, k1, hc, hn, ?_, ?_⟩
    · have := congrArg List.length k3
      rw [List.length_map, List.length_map] at this
      rw [this]
      exact h3
    · obtain ⟨j1, j2⟩ := putF_putD (f := f) (r1.mono f2) k3 k4
      exact pp _ _ h4 σ F2 _ (E2.put h2 (.ins j1 j2)) (f1.trans f2)) fun C M' q F1 H1 E1 f1 => pp _ _ (hx C M' q) F1 H1 E1.rom⟩
theorem m_app {p : Addr} (h : EvR K to M G (.ptr p)) (hm : M p = some (.lst l)) (he : EvR K te M G d) (hz : l.length < 100000) (hp : P (.nx G) (updM M p (.lst (l ++ [d])))) : StM K (tDrop (tBM K "list" rAppend to (tCons te tNil))) M G P := ⟨fun {H0 F0 F H σ E} En pp => by
  unfold tDrop tBM
  refine h.run En _ fun v F1 H1 E1 f1 r1 => ?_
  cases r1
  obtain ⟨_, o, k1, k2⟩ := E1.st p _ hm
  cases k2 with
  | lst k3 =>
    refine ⟨Or.inl ⟨rfl, _, sq_of k1⟩, ?_⟩
    refine he.run E1 _ fun w F2 H2 E2 f2 r2 => ?_
    obtain ⟨_, o2, j1, j2⟩ := E2.st p _ hm
    cases j2 with
    | lst j3 =>
      refine ⟨p, _, w, rfl, rfl, j1, sz_lt (by rw [j3.length]; exact hz), ?_⟩
      exact pp _ _ hp σ F2 _ (E2.put hm (.lst (j3.app (.cons r2 .nil)))) (f1.trans f2)⟩
theorem RpA.dropLast {F : Hp} : ∀ {vs : List V} {ds : List D}, RpA K F vs ds → RpA K F vs.dropLast ds.dropLast := fun {vs ds} h => by
  rw [List.dropLast_eq_take, List.dropLast_eq_take, h.length]
  exact h.take _
theorem e_mpop {p : Addr} (h : EvR K to M G (.ptr p)) (hm : M p = some (.lst l)) (hl : l[l.length - 1]? = some d) (hp : R (.ok d) (updM M p (.lst l.dropLast))) : EvM K (tBM0 K "list" rPop to) X M G R := ⟨fun {H0 F0 F H σ} E Q q qx => by
  unfold tBM0
  refine h.run E _ fun v F1 H1 E1 f1 r1 => ?_
  cases r1
  obtain ⟨_, o, k1, k2⟩ := E1.st p _ hm
  cases k2 with
  | lst k3 =>
    refine ⟨Or.inl ⟨rfl, _, sq_of k1⟩, ?_⟩
    obtain ⟨w, j1, j2⟩ := k3.get hl
    refine ⟨p, _, w, rfl, rfl, k1, by rw [k3.length]; exact j1, ?_⟩
    exact q d _ hp w F1 _ (E1.put hm (.lst (RpA.dropLast k3))) f1 j2⟩
theorem m_dput {p : Addr} (hv : EvR K tv M G d) (h : EvR K td M G (.ptr p)) (hm : M p = some (.dic es)) (hk : EvR K ty M G (keyD k)) (hz : es.length < 100000) (hp : P (.nx G) (updM M p (.dic (putE es k d)))) : StM K (sDPut td ty tv) M G P := ⟨fun {H0 F0 F H σ E} En pp => by
  unfold sDPut
  refine hv.run En _ fun v F1 H1 E1 f1 r1 => h.run E1 _ fun w F2 H2 E2 f2 r2 => hk.run E2 _ fun y F3 H3 E3 f3 r3 => ?_
  cases r2
  have hy := key_rp r3
  subst hy
  obtain ⟨_, o, k1, k2⟩ := E3.st p _ hm
  cases k2 with
  | dic k3 k4 =>
    obtain ⟨j1, j2⟩ := putE_rp (k := k) (r1.mono (f2.trans f3)) k3 k4
    have hl := congrArg List.length k3
    rw [List.length_map, List.length_map] at hl
    exact ⟨p, _, rfl, DPut.k k1 (sz_lt (by rw [hl]; exact hz)), pp _ _ hp σ F3 _ (E3.put hm (.dic j1 j2)) ((f1.trans f2).trans f3)⟩⟩
theorem m_ddel {p : Addr} (h : EvR K td M G (.ptr p)) (hm : M p = some (.dic es)) (hk : EvR K ty M G (keyD k)) (hi : (valE es k).isSome = true) (hp : P (.nx G) (updM M p (.dic (dropE es k)))) : StM K (sDDel td ty) M G P := ⟨fun {H0 F0 F H σ E} En pp => by
  unfold sDDel
  refine h.run En _ fun w F2 H2 E2 f2 r2 => hk.run E2 _ fun y F3 H3 E3 f3 r3 => ?_
  cases r2
  have hy := key_rp r3
  subst hy
  obtain ⟨_, o, k1, k2⟩ := E3.st p _ hm
  cases k2 with
  | dic k3 k4 =>
    obtain ⟨j1, j2⟩ := dropE_rp (k := k) k3 k4
    refine ⟨p, _, k, rfl, k1, rfl, ?_, pp _ _ hp σ F3 _ (E3.put hm (.dic j1 j2)) (f2.trans f3)⟩
    cases q : valE es k with
    | none =>
      rw [q] at hi
      cases hi
    | some d =>
      obtain ⟨v, i1, _⟩ := (valE_rp k3 k4).1 d q
      rw [i1]
      rfl⟩

/-! promises over the store -/
abbrev RelM := List D → Sto → (Res → Sto → Prop) → Prop
def spM (K : PySem.W.Frag) (Rel : RelM) : Sp := fun vs H Q E => ∃ F ds M P, Ex F H ∧ RpA K F vs ds ∧ Cells K F M H ∧ Rel ds M P ∧ ∀ r M', P r M' → match r with
  | .ok d => ∀ v F' H', RoM K (unseen M H) F F' M' H' → Rp K F' v d → Q v H'
  | .exc C => ∀ F' H', RoM K (unseen M H) F F' M' H' → E (.ref C) none H'
theorem spM_len {Rel : RelM} {vs : List V} {H : Hp} {Q : VK} {E : XK} {n : Nat} (hR : ∀ ds M P, Rel ds M P → ds.length = n) (h : spM K Rel vs H Q E) : vs.length = n := by
  obtain ⟨F, ds, M, P, _, r, _, h1, _⟩ := h
  rw [r.length, hR ds M P h1]
/-- what a def's outcomes are told as -/
def OutP (P : Res → Sto → Prop) (X : XK) : Out → Sto → Prop := fun o M => match o with
  | .nx _ => P (.ok .non) M
  | .rt d => P (.ok d) M
  | .ro l => ∀ p, M p = none → P (.ok (.ptr p)) (updM M p (.lst l))
  | .ex C X' => X' = X ∧ P (.exc C) M
  | _ => False
theorem args_own {n i : Nat} {w : Ow} : (args n ds)[i]? ≠ some (.own w) := fun h => by
  unfold args at h
  by_cases hi : i < ds.length
  · rw [List.getElem?_append_left (by rw [List.length_map]; exact hi), List.getElem?_map] at h
    cases q : ds[i]? with
    | none =>
      rw [q] at h
      cases h
    | some e =>
      rw [q] at h
      cases h
  · rw [List.getElem?_append_right (by rw [List.length_map]; omega), List.length_map] at h
    have := List.mem_of_getElem? h
    rw [List.mem_replicate] at this
    cases this.2
theorem unseen_le {H : Hp} : Ex (unseen M H) H := fun a x q => by
  cases hm : M a with
  | none =>
    rw [unseen_none hm] at q
    exact q
  | some n =>
    rw [unseen_some hm] at q
    cases q
theorem body_M {N : List Str} {Rel : RelM} {vs : List V} {H : Hp} {Q : VK} {E : XK} {t : XK → TS} (h : spM K Rel vs H Q E) (hn : ∀ ds M P, Rel ds M P → ds.length ≤ N.length)
    (hb : ∀ ds M P (E : XK), Rel ds M P → StM K (t E) M (args N.length ds) (OutP P E)) : t E { nx := fun _ H' => Q .non H', rt := Q } (start N vs) H := by
  obtain ⟨F, ds, M, P, e, ra, c, hR, q⟩ := h
  have E0 := start_en e ra (hn ds M P hR)
  have E1 : EnM K (unseen M H) F F M H (L2.start N vs) (args N.length ds) := ⟨⟨E0.dat, fun i w z => absurd z args_own, E0.dis, unseen_le, e, Ex.refl F, fun a o z => .inl z, E0.len⟩, c, fun a n z => unseen_some z, fun i w p z => absurd z args_own⟩
  refine (hb ds M P E hR).run E1 fun o M' z => ?_
  cases o with
  | nx G => exact fun σ F' H' E' f' => q _ M' z .non F' H' ⟨⟨E'.en.e0, E'.en.ef, E'.en.e1, E'.en.nf⟩, E'.st, E'.h0⟩ .non
  | rt d => exact fun v F' H' ro r => q _ M' z v F' H' ro r
  | ex C X' =>
    obtain ⟨z1, z2⟩ := z
    subst z1
    exact fun F' H' ro => q _ M' z2 F' H' ro
  | bk G => exact z.elim
  | ct G => exact z.elim
  | ro l => exact fun p xs F' H' ro k0 k1 k2 k3 k4 => q _ _ (z p k2) (.ref p) F' H' ⟨ro.ro, fun a n y => by
      by_cases ha : a = p
      · subst ha
        rw [updM_same] at y
        cases y
        exact ⟨k1, _, k3, .lst k4⟩
      · rw [updM_ne ha] at y
        exact ro.st a n y, fun a n y => by
      by_cases ha : a = p
      · subst ha
        exact k0
      · rw [updM_ne ha] at y
        exact ro.h0 a n y⟩ (.ptr p)
  | ro2 l m => exact z.elim
theorem EnM.calledEn {H0 F0 F H F' H' : Hp} {σ : L2.St} (E : EnM K H0 F0 F M H σ G) (ro : RoM K (unseen M H) F F' M1 H') : En K H0 F0 F' H' σ G where
  dat := fun i d h => by
    obtain ⟨v, a, b⟩ := E.en.dat i d h
    exact ⟨v, a, b.mono ro.ro.e1⟩
  own := fun i w h => by
    obtain ⟨p, o, a, b, c, d, r⟩ := E.en.own i w h
    have hm := E.ow i w p h a
    refine ⟨p, o, a, ?_, c, ro.ro.e0 p o (by rw [unseen_none hm]; exact d), r.mono ro.ro.e1⟩
    cases q : F' p with
    | none => rfl
    | some u =>
      rcases ro.ro.nf p u q with z | z
      · rw [b] at z
        cases z
      · rw [unseen_none hm, d] at z
        cases z
  dis := E.en.dis
  e0 := fun a o h => by
    have hm : M a = none := by
      cases q : M a with
      | none => rfl
      | some n =>
        rw [E.h0 a n q] at h
        cases h
    exact ro.ro.e0 a o (by rw [unseen_none hm]; exact E.en.e0 a o h)
  ef := ro.ro.ef
  e1 := E.en.e1.trans ro.ro.e1
  nf := fun a o h => by
    rcases ro.ro.nf a o h with z | z
    · exact E.en.nf a o z
    · refine .inr ?_
      cases q : M a with
      | none =>
        rw [unseen_none q] at z
        exact ex_none E.en.e0 z
      | some n => exact E.h0 a n q
  len := E.en.len
theorem EnM.called {H0 F0 F H F' H' : Hp} {σ : L2.St} (E : EnM K H0 F0 F M H σ G) (ro : RoM K (unseen M H) F F' M1 H') : EnM K H0 F0 F' M1 H' σ G where
  en := E.calledEn ro
  st := ro.st
  h0 := fun a n h => by
    have z := ro.h0 a n h
    cases q : M a with
    | none =>
      rw [unseen_none q] at z
      exact ex_none E.en.e0 z
    | some n => exact E.h0 a n q
  ow := fun i w p h1 h2 => by
    obtain ⟨p', o, a, b, c, d, r⟩ := E.en.own i w h1
    rw [h2] at a
    cases a
    have hm := E.ow i w p h1 h2
    cases q : M1 p with
    | none => rfl
    | some n =>
      have z := ro.h0 p n q
      rw [unseen_none hm, d] at z
      cases z
theorem e_mcall {Rel : RelM} {Pr : Res → Sto → Prop} (h : EvSR K ta M G ds) (hR : Rel ds M Pr) (hp : ∀ r M', Pr r M' → R r M') : EvM K (tCall (spM K Rel) [] X ta) X M G R := ⟨fun {H0 F0 F H σ} E Q q qx =>
  h.run E _ fun vs F1 H1 E1 f1 r1 => by
    refine ⟨F1, ds, M, Pr, E1.en.ef, by rw [List.append_nil]; exact r1, E1.st, hR, fun r M' z => ?_⟩
    cases r with
    | ok d => exact fun v F2 H2 ro r2 => q d M' (hp _ _ z) v F2 H2 (E1.called ro) (f1.trans ro.ro.e1) r2
    | exc C => exact fun F2 H2 ro => qx C M' (hp _ _ z) F2 H2 (E1.called ro) (f1.trans ro.ro.e1)⟩
theorem e_mmeth {Rel : RelM} {Pr : Res → Sto → Prop} {p : Addr} {m : Str} {fs : List (Str × D)} (h0 : EvR K to M G (.ptr p)) (hm : M p = some (.ins C fs)) (hl : fs.lookup m = none) (h : EvSR K tr M G ds) (hR : Rel (.ptr p :: ds) M Pr) (hp : ∀ r M', Pr r M' → R r M') :
    EvM K (tMeth C m (spM K Rel) [] X to tr) X M G R := ⟨fun {H0 F0 F H σ} E Q q qx =>
  h0.run E _ fun v F1 H1 E1 f1 r1 => by
    cases r1
    obtain ⟨_, o, k1, k2⟩ := E1.st p _ hm
    cases k2 with
    | ins k3 k4 =>
      refine ⟨p, _, _, rfl, k1, lookup_none k3 hl, h.run E1 _ fun vs F2 H2 E2 f2 r2 => ?_⟩
      refine ⟨F2, .ptr p :: ds, M, Pr, E2.en.ef, by rw [List.append_nil]; exact .cons (.ptr p) r2, E2.st, hR, fun r M' z => ?_⟩
      cases r with
      | ok d => exact fun v F3 H3 ro r3 => q d M' (hp _ _ z) v F3 H3 (E2.called ro) ((f1.trans f2).trans ro.ro.e1) r3
      | exc C => exact fun F3 H3 ro => qx C M' (hp _ _ z) F3 H3 (E2.called ro) ((f1.trans f2).trans ro.ro.e1)⟩
/-- a thing made in the store -/
abbrev RelI := Addr → List D → Sto → (Res → Sto → Prop) → Prop
def spMI (K : PySem.W.Frag) (C : Addr) (Rel : RelI) : Sp := fun vs H Q E => ∃ F H1 x dx ws ds M P, vs = .ref x :: ws ∧ H = upd (upd H1 dx (.own x)) x (.ins C dx []) ∧ H1 x = none ∧ H1 dx = none ∧ dx ≠ x ∧ Ex F H1 ∧ RpA K F ws ds ∧ Cells K F M H1 ∧ Rel x ds M P ∧ ∀ r M', P r M' → match r with
  | .ok _ => ∀ F' H', RoM K (unseen M H1) F F' M' H' → Q .non H'
  | .exc D => ∀ F' H', RoM K (unseen M H1) F F' M' H' → E (.ref D) none H'
theorem spMI_len {Rel : RelI} {vs : List V} {H : Hp} {Q : VK} {E : XK} {n : Nat} (hR : ∀ x ds M P, Rel x ds M P → ds.length = n) (h : spMI K C Rel vs H Q E) : vs.length = n + 1 := by
  obtain ⟨F, H1, x, dx, ws, ds, M, P, rfl, _, _, _, _, _, r, _, h1, _⟩ := h
  rw [List.length_cons, r.length, hR x ds M P h1]
/-- of an __init__, which returns nothing -/
def OutI (P : Res → Sto → Prop) (X : XK) : Out → Sto → Prop := fun o M => match o with
  | .nx _ => P (.ok .non) M
  | .ex C X' => X' = X ∧ P (.exc C) M
  | _ => False
theorem body_MI {N : List Str} {Rel : RelI} {vs : List V} {H : Hp} {Q : VK} {E : XK} {t : XK → TS} (h : spMI K C Rel vs H Q E) (hn : ∀ x ds M P, Rel x ds M P → ds.length + 1 ≤ N.length)
    (hb : ∀ x ds M P (E : XK), M x = none → Rel x ds M P → StM K (t E) (updM M x (.ins C [])) (args N.length (.ptr x :: ds)) (OutI P E)) : t E { nx := fun _ H' => Q .non H', rt := Q } (start N vs) H := by
  obtain ⟨F, H1, x, dx, ws, ds, M, P, rfl, rfl, hx, hdx, hne, e, ra, c, hR, q⟩ := h
  have hF : F x = none := ex_none e hx
  have e2 : Ex H1 (upd (upd H1 dx (.own x)) x (.ins C dx [])) := (Ex.new hdx).trans (Ex.new (by rw [upd_ne (fun z => hne z.symm)]; exact hx))
  have hMx : M x = none := by
    cases z : M x with
    | none => rfl
    | some n =>
      obtain ⟨_, o, z2, _⟩ := c x n z
      rw [hx] at z2
      cases z2
  have E0 := start_en (K := K) (N := N) (vs := .ref x :: ws) (ds := .ptr x :: ds) (e.trans e2) (.cons (.ptr x) ra) (hn x ds M P hR)
  have E1 : EnM K (unseen M H1) F F (updM M x (.ins C [])) (upd (upd H1 dx (.own x)) x (.ins C dx [])) (L2.start N (.ref x :: ws)) (args N.length (.ptr x :: ds)) := by
    refine ⟨⟨E0.dat, fun i w z => absurd z args_own, E0.dis, (unseen_le).trans e2, e.trans e2, Ex.refl F, fun a o z => .inl z, E0.len⟩, fun a n z => ?_, fun a n z => ?_, fun i w p z => absurd z args_own⟩
    · by_cases ha : a = x
      · subst ha
        rw [updM_same] at z
        cases z
        exact ⟨hF, _, upd_same, .ins rfl .nil⟩
      · rw [updM_ne ha] at z
        obtain ⟨z1, o, z2, z3⟩ := c a n z
        exact ⟨z1, o, e2 _ _ z2, z3⟩
    · by_cases ha : a = x
      · subst ha
        rw [unseen_none hMx]
        exact hx
      · rw [updM_ne ha] at z
        exact unseen_some z
  refine (hb x ds M P E hMx hR).run E1 fun o M' z => ?_
  cases o with
  | nx G => exact fun σ F' H' E' f' => q _ M' z F' H' ⟨⟨E'.en.e0, E'.en.ef, E'.en.e1, E'.en.nf⟩, E'.st, E'.h0⟩
  | rt d => exact z.elim
  | ex C X' =>
    obtain ⟨z1, z2⟩ := z
    subst z1
    exact fun F' H' ro => q _ M' z2 F' H' ro
  | bk G => exact z.elim
  | ct G => exact z.elim
  | ro l => exact z.elim
  | ro2 l m => exact z.elim
theorem e_mmake {Rel : RelI} (h : EvSR K ta M G ds) (hR : ∀ x, M x = none → ∃ Pr : Res → Sto → Prop, Rel x ds M Pr ∧ (∀ d M', Pr (.ok d) M' → R (.ok (.ptr x)) M') ∧ ∀ C M', Pr (.exc C) M' → R (.exc C) M') : EvM K (tMake C (spMI K C Rel) [] X ta) X M G R := ⟨fun {H0 F0 F H σ} E Q q qx =>
  h.run E _ fun vs F1 H1 E1 f1 r1 => fun x dx hx hdx hne => by
    obtain ⟨Pr, k1, k2, k3⟩ := hR x (E1.free hx)
    refine ⟨F1, H1, x, dx, vs ++ [], ds, M, Pr, rfl, rfl, hx, hdx, hne, E1.en.ef, by rw [List.append_nil]; exact r1, E1.st, k1, fun r M' z => ?_⟩
    cases r with
    | ok d => exact fun F2 H2 ro => ⟨rfl, q _ M' (k2 d M' z) (.ref x) F2 H2 (E1.called ro) (f1.trans ro.ro.e1) (.ptr x)⟩
    | exc C => exact fun F2 H2 ro => qx C M' (k3 C M' z) F2 H2 (E1.called ro) (f1.trans ro.ro.e1)⟩
end
end Cy

set_option Elab.async false
set_option linter.all false
set_option maxRecDepth 100000
set_option maxHeartbeats 4000000
namespace Cy
open PySem PySem.Spec PyProof.Rows L2 Evl
/-! how many unlike keys a set comprehension finds -/
/-- {elt for target in iter if ..}: Cl z S n is the cell of the set at z, told by its members and their number -/
def tScC (Cl : Addr → (Key → Bool) → Nat → HO) (wi : TI) (g : TG) (tt : TT) (te : TE) (vs : List Nat) : TE := fun σ H Q => wi σ H fun J H1 => ∀ z : Addr, H1 z = none → ∃ W : Nat → Nat → Hp → Prop, (∃ m, W 0 m (upd H1 z (Cl z (fun _ => false) 0))) ∧
  ∀ i m H, W i m H → (J.stop i H ∧ Q (.ref z) H) ∨ (J.go i H ∧ ∃ Nx : Hp → Prop, (∀ H', Nx H' → ∃ m', m' < m ∧ W (i + 1) m' H') ∧
    ∀ x H', J.yld i H x H' → g x (wipe σ vs) H' fun σ2 H2 => wipe σ2 vs = wipe σ vs ∧ tt σ2 H2 fun b H3 => if b = true then te σ2 H3 fun y H4 => ∃ k S n, y = kV k ∧ H4 z = some (Cl z S n) ∧ n + 1 < scanBound ∧ Nx (upd H4 z (Cl z (fun j => S j || decide (j = k)) (if S k = true then n else n + 1))) else Nx H3)
def rLenC (Cl : Addr → (Key → Bool) → Nat → HO) : List V → Hp → VK → Prop := fun xs H Q => ∃ a S n, xs = [.ref a] ∧ H a = some (Cl a S n) ∧ Q (.int (n : Nat)) H
/-- len({elt for target in iter if ..}) -/
def tLenSc (wi : TI) (g : TG) (tt : TT) (te : TE) (vs : List Nat) : TE := fun σ H Q => ∀ Cl : Addr → (Key → Bool) → Nat → HO, tCB (rLenC Cl) (tCons (tScC Cl wi g tt te vs) tNil) σ H Q
section
variable {X : Cx}
theorem call_lenK : CallR X (.builtin "len") (rLenC (SetK X.prog X.w)) := by
  intro pins s σ H xs us Q I r h
  obtain ⟨a, S, n, rfl, ha, q⟩ := h
  cases r with
  | cons rx rr =>
    cases rr
    cases rx
    obtain ⟨o, es, ep, t, ho, hx, hd, _, _, hb, hf, hn⟩ := setK_get I ha
    have hs : es.size < 2 ^ 63 := Nat.lt_trans hb (by decide)
    refine call_len_set ho hx hd hf (by exact_mod_cast hs) ?_
    rw [hn]
    exact ⟨.int n, H, (I.tok _).tok _, ⟨_, rfl⟩, q⟩
/-- adding a key -/
theorem addK_ok {pins : List (Addr × Obj)} {σ : L2.St} {H : Hp} {s : Shared} {E Q : Value → Shared → Prop} {z : Addr} {S : Key → Bool} {n : Nat} {k : Key} {u : Value} (I : Inv X pins σ H s) (hz : H z = some (SetK X.prog X.w z S n)) (hr : RelV (kV k) u) (hn : n + 1 < scanBound)
    (q : ∀ v s', Inv X pins σ (upd H z (SetK X.prog X.w z (fun j => S j || decide (j = k)) (if S k = true then n else n + 1))) s' → Q v s') : wpAny (model X.prog X.w) X.A (call (.builtin "set.add") [.ref z, u]) Q E s := by
  refine call_set_add (kV_is hr) (key_scan hr) (setK_get I hz) hn fun h' same fresh => ?_
  have hu : ∃ o, h'.get? z = some o := ⟨_, fresh.choose_spec.choose_spec.choose_spec.choose_spec.1⟩
  exact q _ _ (I.write (e := z) (t' := s.toks + 1) (by rw [hz]; trivial) (.inl rfl) (fun b o hb ho => (same.2 b hb).trans ho) hu (setK_new fresh))
theorem pe_lenSc {elt tg iter : Expr} {ifs : List Expr} {scope : Scope} {own : List (PySem.Str × Nat)} {pos p pos' : Pos} {wi : TI} {g : TG} {tt : TT} {te : TE} (hc : X.calm = true) (hN : X.N.Nodup) (hgl : Gl X "len") (hml : X.mg "len" = none) (hi : PI X tg iter wi) (ok : BlkOk X.N X.env.scope scope own)
    (hg : ∀ s H C cl fp, PG (X.blk s H scope (compEnvC scope cl C X.env) fp) tg g) (ht : ∀ s H C cl fp, PTs (X.blk s H scope (compEnvC scope cl C X.env) fp) ifs tt) (he : ∀ s H C cl fp, PE (X.blk s H scope (compEnvC scope cl C X.env) fp) elt te) (hs : ∀ x, foldedSetIterable iter X.env x = pure x := by intro _; rfl) :
    PE X (.Call (.Name "len" p) [.SetComp elt [⟨tg, iter, ifs, 0⟩] scope pos] [] pos') (tLenSc wi g tt te (own.map (·.2))) := by
  refine ⟨fun pins s σ H Q I h => ?_⟩
  -- the set as a value
  have hset : PE X (.SetComp elt [⟨tg, iter, ifs, 0⟩] scope pos) (tScC (SetK X.prog X.w) wi g tt te (own.map (·.2))) := by
    refine ⟨fun pins s σ H Q I h => ?_⟩
    rw [PpSet.eval_SetComp]
    have frees : ∀ y ∈ scope.names, y.2 = .free → ∃ c, X.env.cells.lookup y.1 = some c := fun y hy ey => (ok.free y hy ey).elim (fun k => I.ok.has _ (.inl k)) fun k => I.ok.has _ (.inr k)
    refine wpAny_comprehension_free (use := none) rfl hs (closure_ok frees) ok.kind (fun y hy ey => by rw [ok.uniq y hy, ey]) (thn (hi.run pins s σ H _ I h) fun xv sa ha => thn ha fun itv sb hb => ?_)
    obtain ⟨it, fp, tn, J, Hb, rfl, Ib, T, stb, fb, qb⟩ := hb
    refine PpSet.newSet_ok (newEnv_comp ?_)
    generalize hz : sb.heap.objs.size = z
    obtain ⟨W, ⟨m0, w0⟩, turn⟩ := qb z (Ib.hok.fresh (Nat.le_of_eq hz))
    generalize hsc : ({ sb with heap := sb.heap.push { cls := .type "set", dict := none, data := .set #[] 0 (.fresh 0 0 (!X.w.params.followText "set-order")) } } : Shared) = sc
    have hpc : sc.heap = sb.heap.push { cls := .type "set", dict := none, data := .set #[] 0 (.fresh 0 0 (!X.w.params.followText "set-order")) } := by rw [← hsc]
    have up : ∀ b o, sb.heap.get? b = some o → sc.heap.get? b = some o := fun b o eb => by
      rw [hpc]
      exact Heap.get?_push_of_some _ eb
    have empty : sc.heap.SetOf (mixKind X.prog X.w) z (fun _ => false) 0 := by
      rw [hpc, ← hz]
      exact ⟨_, #[], 0, _, Heap.get?_push_size _ rfl, ⟨rfl, rfl, rfl⟩, rfl, (fun e ee => by simp at ee), (fun k => by simp), (by decide), (by rfl), rfl⟩
    have Ic : Inv X pins σ (upd Hb z (SetK X.prog X.w z (fun _ => false) 0)) sc := by
      rw [← hsc]
      refine Ib.laid (t' := sb.toks) (fun b o eb => Heap.get?_push_of_some _ eb) (Nat.le_of_eq hz) ?_
      rw [hpc] at empty
      exact setK_new empty
    have below : ∀ b ∈ fp, b < sb.heap.objs.size := fun b hb => Heap.lt_size (T.obj _ _ stb b hb).choose_spec.1
    have fc : ∀ b ∈ fp, FpOk X pins (upd Hb z (SetK X.prog X.w z (fun _ => false) 0)) b ∧ b < sc.heap.objs.size := fun b hb => by
      have lt := below b hb
      have hbz : b ≠ z := hz ▸ Nat.ne_of_lt lt
      have big : b < sc.heap.objs.size := by
        rw [hpc, Heap.size_push]
        exact Nat.lt_succ_of_lt lt
      refine ⟨⟨?_, (fb b hb).2⟩, big⟩
      rw [upd_ne hbz]
      exact (fb b hb).1
    have stc : tn 0 sc.heap := T.keep _ _ _ stb fun b _ o eb => up b o eb
    generalize hHc : upd Hb z (SetK X.prog X.w z (fun _ => false) 0) = Hc at Ic w0 fc
    have Id := block_start Ic ok hN fc
    have gg := hg sc Hc sc.heap.objs.size (cellsFrom (sc.heap.objs.size + 1) scope.names (cloFrom X.env.cells scope.names [])) fp
    have gt := ht sc Hc sc.heap.objs.size (cellsFrom (sc.heap.objs.size + 1) scope.names (cloFrom X.env.cells scope.names [])) fp
    have ge := he sc Hc sc.heap.objs.size (cellsFrom (sc.heap.objs.size + 1) scope.names (cloFrom X.env.cells scope.names [])) fp
    have nof : ∀ b ∈ fp, Hc b = none := fun b hb => (fc b hb).1.1
    show codeAny _ _ (.compStart _ 0 (.ref it) (.ref z) (compEnvC scope (cellsFrom (sc.heap.objs.size + 1) scope.names (cloFrom X.env.cells scope.names [])) sc.heap.objs.size X.env)) (compPost (model X.prog X.w) X.A X.xe none (EP X pins σ Q) (.ref z) sc.heap.objs.size) { sc with heap := pushCells (sc.heap.push { cls := .type "dict", data := .dict #[] }) scope.names }
    generalize hce : compEnvC scope (cellsFrom (sc.heap.objs.size + 1) scope.names (cloFrom X.env.cells scope.names [])) sc.heap.objs.size X.env = ce at Id gg gt ge ⊢
    have lc : ce.locals = sc.heap.objs.size := by
      rw [← hce]
      rfl
    generalize hsd : ({ sc with heap := pushCells (sc.heap.push { cls := .type "dict", data := .dict #[] }) scope.names } : Shared) = sd at Id ⊢
    have std : tn 0 sd.heap := T.keep _ _ _ stc fun b _ o eb => by
      rw [← hsd]
      exact pushCells_keeps _ _ _ _ (Heap.get?_push_of_some _ eb)
    let Y : Cx := X.blk sc Hc scope ce fp
    have still : ∀ {τ : L2.St} {H' : Hp} {s' : Shared}, Inv Y [] τ H' s' → (∀ b ∈ fp, H' b = none) → ∀ b ∈ fp, FpOk Y [] H' b := fun {τ H' s'} J' nb b hb =>
      ⟨nb b hb, (J'.ok.exf b hb).1, J'.ok.exfs b hb, .inl hb, fun x c ex => (J'.ok.exf b hb).2 x c ex, fun q hq => absurd (show q ∈ ([] : List (Addr × Obj)) ++ [] from hq) (by simp)⟩
    have walk : codeAny (model X.prog X.w) X.A (.compLoop (.SetComp elt [⟨tg, iter, ifs, 0⟩] scope pos) 0 (.ref it) (.ref z) ce) (compPost (model X.prog X.w) X.A X.xe none (EP X pins σ Q) (.ref z) sc.heap.objs.size) sd := by
      refine PpSet.compLoopS_any (fun m s' => ∃ i H', Inv Y [] (wipe σ (own.map (·.2))) H' s' ∧ tn i s'.heap ∧ (∀ b ∈ fp, H' b = none) ∧ W i m H') ?_ m0 ⟨0, Hc, Id, std, nof, w0⟩
      rintro m se ⟨i, He, Ie, ste, ne, we⟩
      rcases turn i m He we with ⟨halt, fin⟩ | ⟨go, Nx, less, step⟩
      · refine thnF (T.done Y rfl rfl rfl hc i [] se _ He (fun _ _ => False) Ie (still Ie ne) ste halt) fun r sf ⟨hr, If⟩ => ?_
        subst hr
        have Ig : Inv X pins σ He sf := Ic.call' (ch := fp) If.os If.base If.hok If.bare fun b hb => ⟨(fc b hb).1.2.2.2.1, (fc b hb).1.2.1, (fc b hb).1.2.2.2.2.1, (fc b hb).1.2.2.2.2.2⟩
        have nl : He sc.heap.objs.size = none := by
          rw [← lc]
          exact If.free
        obtain ⟨names, hn, _⟩ := If.loc
        have hn2 : sf.heap.Ns sc.heap.objs.size names := by
          rw [← lc]
          exact hn
        refine ⟨names, hn2, fun h'' sb' => ?_⟩
        obtain ⟨g0, g1, g2, g3, g4, g5⟩ := Ic.fpOk (Nat.le_refl _) nl
        exact ⟨.ref z, He, Ig.turned (t' := sf.toks) (fun b o hb eb => (sb'.2 b hb).trans eb) g0 g1 g3 g4 g5, rfl, fin⟩
      · refine thnF (T.item Y rfl rfl rfl hc i [] se _ He (fun _ _ => False) Ie (still Ie ne) ste go) fun r sf ⟨u, hr, hf⟩ => ?_
        subst hr
        refine thnF hf fun _ sg ⟨x, Hg, Ig, rg, yg, stg, ng⟩ => ?_
        refine thnF (gg.run _ sg _ Hg x u _ (Ig.pinned (still Ig ng) (T.obj _ _ stg)) rg (step x Hg yg)) fun _ sh ⟨τ, Hh, Ih, wh, qh⟩ => ?_
        refine thnF (gt.run _ sh τ Hh _ Ih qh) fun b si ⟨Hi, Ii, qi⟩ => ?_
        have onward : ∀ {s' : Shared} {H' : Hp}, Inv Y ([] ++ pinsAt fp sg.heap) τ H' s' → Nx H' → ∃ m', m' < m ∧ ∃ i H', Inv Y [] (wipe σ (own.map (·.2))) H' s' ∧ tn i s'.heap ∧ (∀ b ∈ fp, H' b = none) ∧ W i m' H' := fun {s' H'} J' nx => by
          obtain ⟨m', hm, w'⟩ := less H' nx
          have held : ∀ b ∈ fp, ∀ o, sg.heap.get? b = some o → s'.heap.get? b = some o ∧ H' b = none := fun b hb o eo =>
            have q := J'.pin (b, o) (List.mem_append_right _ (List.mem_append_right _ (mem_pinsAt hb eo)))
            ⟨q.1, q.2.1⟩
          have len : (wipe σ (own.map (·.2))).length = τ.length := by rw [← wh, wipe_length]
          refine ⟨m', hm, i + 1, H', (J'.unpinned (pins := [])).weak len (fun j v ej => ?_), T.keep _ _ _ stg fun b hb o eo => (held b hb o eo).1, fun b hb => ?_, w'⟩
          · rw [← wh] at ej
            exact (wipe_some ej).1
          · obtain ⟨o, eo, _⟩ := T.obj _ _ stg b hb
            exact (held b hb o eo).2
        cases b with
        | false =>
          simp only [Bool.false_eq_true, if_false] at qi ⊢
          exact onward Ii qi
        | true =>
          simp only [if_true] at qi ⊢
          refine thnF (ge.run _ si τ Hi _ Ii qi) fun uv sj ⟨yv, Hj, Ij, rj, k, S, n, ey, hzj, hnj, nx⟩ => ?_
          subst ey
          exact addK_ok (X := Y) Ij hzj rj hnj fun v sk Ik => onward Ik nx
    exact PpSet.codeAny_compStart_set walk (T.self X.A 0 _ _ _ std walk)
  -- its length
  exact (pe_callB call_lenK hgl hml (by decide +kernel) (pa_cons hset pa_nil)).run pins s σ H Q I (h (SetK X.prog X.w))
end
end Cy

set_option Elab.async false
set_option linter.all false
set_option maxRecDepth 100000
set_option maxHeartbeats 4000000
namespace Cy
open PySem PySem.Spec PyProof.Rows L2 Evl
/-! targets of several names -/
theorem wipe_set_in : ∀ {vs : List Nat} {τ : L2.St} {i : Nat} {v : Option V}, i ∈ vs → L2.wipe (τ.set i v) vs = L2.wipe τ vs
  | w :: vs, τ, i, v, h => by
    by_cases hv : i ∈ vs
    · show (L2.wipe (τ.set i v) vs).set w none = (L2.wipe τ vs).set w none
      rw [wipe_set_in hv]
    · have hw : i = w := by
        rcases List.mem_cons.mp h with z | z
        · exact z
        · exact absurd z hv
      subst hw
      have out : ∀ {us : List Nat} {τ : L2.St}, i ∉ us → L2.wipe (τ.set i v) us = (L2.wipe τ us).set i v := fun {us} => by
        induction us with
        | nil => intro τ _; rfl
        | cons u us ih =>
          intro τ hu
          have h1 : i ≠ u := fun z => hu (z ▸ List.mem_cons_self)
          have h2 : i ∉ us := fun z => hu (List.mem_cons_of_mem _ z)
          show (L2.wipe (τ.set i v) us).set u none = ((L2.wipe τ us).set u none).set i v
          rw [ih h2, List.set_comm _ _ h1]
      show (L2.wipe (τ.set i v) vs).set i none = (L2.wipe τ vs).set i none
      rw [out hv, List.set_set]
def KeepW (g : TG) (vs : List Nat) : Prop := ∀ (c : L2.St) (x : V) (τ : L2.St) (H : Hp) (Q Q' : L2.St → Hp → Prop), (∀ τ2 H2, L2.wipe τ2 vs = c → Q τ2 H2 → Q' τ2 H2) → L2.wipe τ vs = c → g x τ H Q → g x τ H Q'
def KeepWs (g : TGs) (vs : List Nat) : Prop := ∀ (c : L2.St) (x : List V) (τ : L2.St) (H : Hp) (Q Q' : L2.St → Hp → Prop), (∀ τ2 H2, L2.wipe τ2 vs = c → Q τ2 H2 → Q' τ2 H2) → L2.wipe τ vs = c → g x τ H Q → g x τ H Q'
theorem kw_name {i : Nat} {vs : List Nat} (h : i ∈ vs) : KeepW (gName i) vs := fun c x τ H Q Q' hq e q => hq _ _ (by rw [wipe_set_in h]; exact e) q
theorem kw_nil {vs : List Nat} : KeepWs gNil vs := fun c x τ H Q Q' hq e q => ⟨q.1, hq _ _ e q.2⟩
theorem kw_cons {g : TG} {gs : TGs} {vs : List Nat} (h1 : KeepW g vs) (h2 : KeepWs gs vs) : KeepWs (gCons g gs) vs := fun c x τ H Q Q' hq e q => by
  obtain ⟨v, r, hx, q⟩ := q
  exact ⟨v, r, hx, h1 c v τ H _ _ (fun τ2 H2 e2 q2 => h2 c r τ2 H2 Q Q' hq e2 q2) e q⟩
theorem kw_tup {K : PySem.W.Frag} {gs : TGs} {n : Nat} {vs : List Nat} (h : KeepWs gs vs) : KeepW (gTup K n gs) vs := fun c x τ H Q Q' hq e q => by
  obtain ⟨a, xs, rfl, hs, hl, q⟩ := q
  exact ⟨a, xs, rfl, hs, hl, h c xs τ H Q Q' hq e q⟩
theorem wipe_twice {vs : List Nat} {σ : L2.St} : ∀ {us : List Nat}, (∀ u ∈ us, u ∈ vs) → L2.wipe (L2.wipe σ us) vs = L2.wipe σ vs
  | [], _ => rfl
  | u :: us, h => by
    show L2.wipe ((L2.wipe σ us).set u none) vs = L2.wipe σ vs
    rw [wipe_set_in (h u List.mem_cons_self)]
    exact wipe_twice fun v hv => h v (List.mem_cons_of_mem _ hv)
theorem keeps_of {g : TG} {vs : List Nat} (h : KeepW g vs) : Keeps g vs := fun x σ H Q q => h (L2.wipe σ vs) x (L2.wipe σ vs) H Q _ (fun τ2 H2 e q2 => ⟨e, q2⟩) (wipe_twice fun u hu => hu) q

/-! a cell that no one else knows -/
theorem En.aside {K : PySem.W.Frag} {H0 F0 F H : Hp} {σ : L2.St} {G : List Sl} (E : Cy.En K H0 F0 F H σ G) {z : Addr} {o : HO} (hF : F z = none) (h0 : H0 z = none) (hw : ∀ (i : Nat) (w : Ow), G[i]? = some (.own w) → σ[i]? ≠ some (some (.ref z))) : Cy.En K H0 F0 F (upd H z o) σ G where
  dat := E.dat
  own := fun i w h => by
    obtain ⟨p, u, a, b, c, d, r⟩ := E.own i w h
    have hne : p ≠ z := fun q => by
      subst q
      exact hw i w h a
    exact ⟨p, u, a, b, c, by rw [upd_ne hne]; exact d, r⟩
  dis := E.dis
  e0 := fun a u q => by
    have hne : a ≠ z := fun y => by
      subst y
      rw [h0] at q
      cases q
    rw [upd_ne hne]
    exact E.e0 a u q
  ef := fun a u q => by
    have hne : a ≠ z := fun y => by
      subst y
      rw [hF] at q
      cases q
    rw [upd_ne hne]
    exact E.ef a u q
  e1 := E.e1
  nf := E.nf
  len := E.len
theorem En.freeW {K : PySem.W.Frag} {H0 F0 F H : Hp} {σ : L2.St} {G : List Sl} (E : Cy.En K H0 F0 F H σ G) {a : Addr} (h : H a = none) : ∀ (i : Nat) (w : Ow), G[i]? = some (.own w) → σ[i]? ≠ some (some (.ref a)) := fun i w q z => by
  obtain ⟨p, u, a1, b1, c1, d1, r1⟩ := E.own i w q
  rw [z] at a1
  cases a1
  rw [h] at d1
  cases d1
theorem nw_none {F F' H : Hp} {z : Addr} {o : HO} (n : Nw F F' H) (hF : F z = none) (hH : H z = some o) : F' z = none := by
  cases q : F' z with
  | none => rfl
  | some u =>
    rcases n z u q with y | y
    · rw [hF] at y
      cases y
    · rw [hH] at y
      cases y

/-- the number of unlike keys -/
def memK (l : List Key) (k : Key) : Bool := l.any fun j => decide (j = k)
theorem memK_iff {l : List Key} {k : Key} : memK l k = true ↔ k ∈ l := by
  unfold memK
  rw [List.any_eq_true]
  exact ⟨fun ⟨j, hj, e⟩ => (of_decide_eq_true e) ▸ hj, fun h => ⟨k, h, decide_eq_true rfl⟩⟩
def cntK : List Key → Nat
  | [] => 0
  | k :: r => if memK r k = true then cntK r else cntK r + 1
theorem cntK_le : ∀ l : List Key, cntK l ≤ l.length
  | [] => Nat.le_refl 0
  | k :: r => by
    have := cntK_le r
    unfold cntK
    rw [List.length_cons]
    split <;> omega
theorem cntK_nodup : ∀ {l : List Key}, cntK l = l.length ↔ l.Nodup
  | [] => ⟨fun _ => List.nodup_nil, fun _ => rfl⟩
  | k :: r => by
    have hl := cntK_le r
    unfold cntK
    rw [List.nodup_cons, List.length_cons, ← cntK_nodup (l := r)]
    by_cases h : memK r k = true
    · rw [if_pos h]
      exact ⟨fun q => by omega, fun q => absurd (memK_iff.mp h) q.1⟩
    · rw [if_neg h]
      exact ⟨fun q => ⟨fun z => h (memK_iff.mpr z), by omega⟩, fun q => by omega⟩
/-- a walk that fills a set -/
theorem sc_it {J : It} {n : Nat} {Gp : Hp → Prop} {Y : Nat → Hp → V → Hp → Prop} (w : Walk J n Gp Y) {g : TG} {tt : TT} {te : TE} {vs : List Nat} {σ : L2.St} {H1 : Hp} {z : Addr} {Cl : Addr → (Key → Bool) → Nat → HO} {Qd : Hp → Prop} (Pv : Nat → Hp → Prop) (h0 : Pv 0 (upd H1 z (Cl z (fun _ => false) 0))) (hG : ∀ i H, i ≤ n → Pv i H → Gp H)
    (hs : ∀ i x H H', i < n → Pv i H → Y i H x H' → g x (wipe σ vs) H' fun σ2 H2 => wipe σ2 vs = wipe σ vs ∧ tt σ2 H2 fun b H3 => if b = true then te σ2 H3 fun y H4 => ∃ k S m, y = kV k ∧ H4 z = some (Cl z S m) ∧ m + 1 < scanBound ∧ Pv (i + 1) (upd H4 z (Cl z (fun j => S j || decide (j = k)) (if S k = true then m else m + 1))) else Pv (i + 1) H3) (hd : ∀ H, Pv n H → Qd H) :
    ∃ W : Nat → Nat → Hp → Prop, (∃ m, W 0 m (upd H1 z (Cl z (fun _ => false) 0))) ∧ ∀ i m H, W i m H → (J.stop i H ∧ Qd H) ∨ (J.go i H ∧ ∃ Nx : Hp → Prop, (∀ H', Nx H' → ∃ m', m' < m ∧ W (i + 1) m' H') ∧
      ∀ x H', J.yld i H x H' → g x (wipe σ vs) H' fun σ2 H2 => wipe σ2 vs = wipe σ vs ∧ tt σ2 H2 fun b H3 => if b = true then te σ2 H3 fun y H4 => ∃ k S n, y = kV k ∧ H4 z = some (Cl z S n) ∧ n + 1 < scanBound ∧ Nx (upd H4 z (Cl z (fun j => S j || decide (j = k)) (if S k = true then n else n + 1))) else Nx H3) :=
  ⟨fun i m H => m + i = n ∧ Pv i H, ⟨n, rfl, h0⟩, fun i m H hW => by
    obtain ⟨e, p⟩ := hW
    rcases Nat.eq_or_lt_of_le (show i ≤ n by omega) with hi | hi
    · subst hi
      exact .inl ⟨w.stops H (hG _ H (Nat.le_refl _) p), hd H p⟩
    · exact .inr ⟨w.goes i H hi (hG i H (by omega) p), Pv (i + 1), fun H' p' => ⟨m - 1, by omega, by omega, p'⟩, fun x H' y => hs i x H H' hi p (w.yields i H x H' hi (hG i H (by omega) p) y)⟩⟩
section
variable {K : PySem.W.Frag} {G : List Sl} {te tk tv : TE} {g : TG}
theorem e_lenSc {wi : TI} {items : List D} {vs : List Nat} (f : D → Key) (T : D → List Sl) (hk : Keeps g vs) (hi : ItD K wi G items) (hz : items.length ≤ 1000) (ht : ∀ d, d ∈ items → TgD K g (wipeG G vs) d (T d)) (hv : ∀ d, d ∈ items → EvD K te (T d) (keyD (f d))) :
    EvD K (tLenSc wi g tYes te vs) G (.int (cntK (items.map f).reverse : Nat)) := .mk fun {H0 F0 F H σ} E Q q Cl => by
  unfold tCB tCons tScC
  refine hi E _ fun J F1 H1 E1 f1 g1 n1 wk => ?_
  obtain ⟨Gp, Y, w, hg, hy⟩ := wk.ex
  intro z hz1
  have hsb : scanBound = 4096 := rfl
  refine sc_it (Cl := Cl) w (fun i H' => ∃ F', Cy.En K H0 F0 F' H' σ G ∧ Ex F1 F' ∧ Ex H1 H' ∧ Nw F1 F' H1 ∧ F' z = none ∧ H' z = some (Cl z (fun k => memK ((items.map f).take i) k) (cntK ((items.map f).take i).reverse))) ?_ (fun i H' _ ⟨F', E', e', _⟩ => hg H' (e'.trans E'.ef)) ?_ ?_
  · refine ⟨F1, E1.grow (Ex.refl _) (Ex.new hz1) (E1.ef.trans (Ex.new hz1)) (Nw.refl _ _), Ex.refl _, Ex.new hz1, Nw.refl _ _, ex_none E1.ef hz1, ?_⟩
    rw [upd_same]
    have : (fun k => memK ((items.map f).take 0) k) = fun _ : Key => false := by
      funext k
      rw [List.take_zero]
      rfl
    rw [this, List.take_zero]
    rfl
  · rintro i x H2 H3 hlt ⟨F', E', e', gg, nn, hF, hH⟩ y
    obtain ⟨F2, d, k1, k2, k3, k4, hd2, r2⟩ := hy i H2 x H3 F' e' E'.ef y
    have E3 : Cy.En K H0 F0 F2 H3 σ G := E'.grow k1 k2 k3 k4
    have hm : d ∈ items := List.mem_of_getElem? hd2
    refine hk x σ H3 _ ?_
    refine ht d hm (E3.wipe vs) r2 _ fun σ4 E4 => ?_
    have hH3 := k2 _ _ hH
    have hF2 := nw_none k4 hF hH
    show te σ4 H3 _
    refine hv d hm E4 _ fun v6 F6 H6 E6 f6 g6 n6 r6 => ?_
    have hk6 := key_rp r6
    subst hk6
    have hH6 := g6 _ _ hH3
    have hF6 := nw_none n6 hF2 hH3
    have n6' : Nw F1 F6 H1 := (nn.trans k4 gg).trans n6 (gg.trans k2)
    have E6' : Cy.En K H0 F0 F6 H6 σ G := E3.grow f6 g6 E6.ef n6
    have hcl : cntK ((items.map f).take i).reverse ≤ 1000 := by
      refine Nat.le_trans (cntK_le _) ?_
      rw [List.length_reverse, List.length_take, List.length_map]
      omega
    refine ⟨f d, _, _, rfl, hH6, by rw [hsb]; omega, F6, E6'.aside hF6 (ex_none E1.e0 hz1) (fun j w hj hs => ?_), (e'.trans k1).trans f6, Ex.mut ((gg.trans k2).trans g6) hz1, n6', hF6, ?_⟩
    · exact E1.freeW hz1 j w hj hs
    · rw [upd_same]
      have hi2 : (items.map f)[i]? = some (f d) := by rw [List.getElem?_map, hd2]; rfl
      have hs2 : (items.map f).take (i + 1) = (items.map f).take i ++ [f d] := by rw [List.take_succ, hi2]; rfl
      rw [hs2, List.reverse_append]
      have e1 : (fun k => memK ((items.map f).take i ++ [f d]) k) = fun k => memK ((items.map f).take i) k || decide (k = f d) := by
        funext k
        rw [Bool.eq_iff_iff, Bool.or_eq_true, memK_iff, memK_iff, decide_eq_true_iff, List.mem_append, List.mem_singleton]
      have e2 : cntK ([f d].reverse ++ ((items.map f).take i).reverse) = if memK ((items.map f).take i) (f d) = true then cntK ((items.map f).take i).reverse else cntK ((items.map f).take i).reverse + 1 := by
        show (if memK ((items.map f).take i).reverse (f d) = true then _ else _) = _
        have e3 : memK ((items.map f).take i).reverse (f d) = memK ((items.map f).take i) (f d) := by
          rw [Bool.eq_iff_iff, memK_iff, memK_iff, List.mem_reverse]
        rw [e3]
        rfl
      rw [e1, e2]
  · rintro H2 ⟨F', E', e', gg, nn, hF, hH⟩
    refine ⟨z, _, _, rfl, hH, ?_⟩
    have hl : (items.map f).take items.length = items.map f := List.take_of_length_le (by rw [List.length_map]; exact Nat.le_refl _)
    rw [hl]
    exact q _ F' H2 E' (f1.trans e') (g1.trans gg) (n1.trans nn g1) (.int _)
/-- {k: v for targets in a list} -/
theorem e_dcL {wi : TI} {items : List D} {vs : List Nat} (f : D → Key) (v : D → D) (T : D → List Sl) (hk : Keeps g vs) (hi : ItD K wi G items) (hz : items.length ≤ 1000) (hn : (items.map f).Nodup) (ht : ∀ d, d ∈ items → TgD K g (wipeG G vs) d (T d)) (h1 : ∀ d, d ∈ items → EvD K tk (T d) (keyD (f d))) (h2 : ∀ d, d ∈ items → EvD K tv (T d) (v d)) :
    EvD K (tDc wi g tYes tk tv vs) G (.dic (items.map fun d => (f d, v d))) := .mk fun {H0 F0 F H σ} E Q q => by
  unfold tDc
  refine hi E _ fun J F1 H1 E1 f1 g1 n1 wk => ?_
  obtain ⟨Gp, Y, w, hg, hy⟩ := wk.ex
  intro z hz1
  refine ⟨fun i m H' => m + i = items.length ∧ ∃ F' kvs, Cy.En K H0 F0 F' H' σ G ∧ Ex F1 F' ∧ Ex H1 H' ∧ Nw F1 F' H1 ∧ F' z = none ∧ H' z = some (.dK kvs) ∧ kvs.map (fun p => p.1) = (items.take i).map f ∧ RpA K F' (kvs.map fun p => p.2) ((items.take i).map v), ⟨items.length, rfl, F1, [], E1.grow (Ex.refl _) (Ex.new hz1) (E1.ef.trans (Ex.new hz1)) (Nw.refl _ _), Ex.refl _, Ex.new hz1, Nw.refl _ _, ex_none E1.ef hz1, upd_same, rfl, .nil⟩, ?_⟩
  rintro i m H2 ⟨hm, F', kvs, E', e', gg, nn, hF, hH, hkk, hr⟩
  rcases Nat.eq_or_lt_of_le (show i ≤ items.length by omega) with hlt | hlt
  · subst hlt
    refine .inl ⟨w.stops H2 (hg H2 (e'.trans E'.ef)), ?_⟩
    rw [List.take_length] at hkk hr
    have ef : Ex F' (upd F' z (.dK kvs)) := Ex.new hF
    have e3 : Ex (upd F' z (.dK kvs)) H2 := fun a o y => by
      by_cases ha : a = z
      · subst ha
        rw [upd_same] at y
        cases y
        exact hH
      · rw [upd_ne ha] at y
        exact E'.ef a o y
    have nw : Nw F1 (upd F' z (.dK kvs)) H1 := fun a o y => by
      by_cases ha : a = z
      · subst ha
        exact .inr hz1
      · rw [upd_ne ha] at y
        exact nn a o y
    refine q _ _ H2 (E1.grow (e'.trans ef) gg e3 nw) (f1.trans (e'.trans ef)) (g1.trans gg) (n1.trans nw g1) (.dic upd_same (by rw [hkk, List.map_map]; rfl) ?_)
    rw [List.map_map]
    exact hr.mono ef
  · refine .inr ⟨w.goes i H2 hlt (hg H2 (e'.trans E'.ef)), fun H' => ∃ F' kvs, Cy.En K H0 F0 F' H' σ G ∧ Ex F1 F' ∧ Ex H1 H' ∧ Nw F1 F' H1 ∧ F' z = none ∧ H' z = some (.dK kvs) ∧ kvs.map (fun p => p.1) = (items.take (i + 1)).map f ∧ RpA K F' (kvs.map fun p => p.2) ((items.take (i + 1)).map v), fun H' p' => ⟨m - 1, by omega, by omega, p'⟩, fun x H3 y => ?_⟩
    obtain ⟨F2, d, k1, k2, k3, k4, hd2, r2⟩ := hy i H2 x H3 F' e' E'.ef (w.yields i H2 x H3 hlt (hg H2 (e'.trans E'.ef)) y)
    have E3 : Cy.En K H0 F0 F2 H3 σ G := E'.grow k1 k2 k3 k4
    have hm2 : d ∈ items := List.mem_of_getElem? hd2
    refine hk x σ H3 _ ?_
    refine ht d hm2 (E3.wipe vs) r2 _ fun σ4 E4 => ?_
    have hH3 := k2 _ _ hH
    have hF2 := nw_none k4 hF hH
    show tk σ4 H3 _
    refine h1 d hm2 E4 _ fun v5 F5 H5 E5 f5 g5 n5 r5 => h2 d hm2 E5 _ fun v6 F6 H6 E6 f6 g6 n6 r6 => ?_
    have hk6 := key_rp r5
    subst hk6
    have hH5 := g5 _ _ hH3
    have hF5 := nw_none n5 hF2 hH3
    have hH6 := g6 _ _ hH5
    have hF6 := nw_none n6 hF5 hH5
    have n6' : Nw F1 F6 H1 := ((nn.trans k4 gg).trans n5 (gg.trans k2)).trans n6 ((gg.trans k2).trans g5)
    have E6' : Cy.En K H0 F0 F6 H6 σ G := (E3.grow f5 g5 E5.ef n5).grow f6 g6 E6.ef n6
    have hs2 : items.take (i + 1) = items.take i ++ [d] := by rw [List.take_succ, hd2]; rfl
    have hnew : (kvs.any fun kv => decide (kv.1 = f d)) = false := by
      rw [← Bool.not_eq_true]
      intro hany
      obtain ⟨p, hp, hq⟩ := List.any_eq_true.mp hany
      have hq' := of_decide_eq_true hq
      have hmem : f d ∈ (items.take i).map f := by
        rw [← hkk, ← hq']
        exact List.mem_map.mpr ⟨p, hp, rfl⟩
      have hsub : ((items.take (i + 1)).map f).Nodup := List.Nodup.sublist (List.Sublist.map f (List.take_sublist _ _)) hn
      rw [hs2, List.map_append, List.map_cons, List.map_nil, List.nodup_append] at hsub
      exact hsub.2.2 _ hmem _ (List.mem_singleton.mpr rfl) rfl
    have hput : putK kvs (f d) v6 = kvs ++ [(f d, v6)] := by
      unfold putK
      rw [hnew]
      rfl
    have hlk : kvs.length ≤ i := by
      have := congrArg List.length hkk
      rw [List.length_map, List.length_map, List.length_take] at this
      omega
    refine ⟨kvs, f d, rfl, hH6, sz_lt (by omega), F6, putK kvs (f d) v6, E6'.aside hF6 (ex_none E1.e0 hz1) (fun j w hj hs => E1.freeW hz1 j w hj hs), ((e'.trans k1).trans f5).trans f6, Ex.mut (((gg.trans k2).trans g5).trans g6) hz1, n6', hF6, upd_same, ?_, ?_⟩
    · rw [hput, hs2, List.map_append, List.map_append, hkk]
      rfl
    · rw [hput, hs2, List.map_append, List.map_append]
      exact (hr.mono ((k1.trans f5).trans f6)).app (.cons r6 .nil)
end
end Cy

set_option Elab.async false
set_option linter.all false
set_option maxRecDepth 100000
set_option maxHeartbeats 4000000
namespace Cy
open PySem PySem.Spec PyProof.Rows L2 Evl
section
variable {K : PySem.W.Frag} {M M1 M2 : Sto} {G G' G1 : List Sl} {te td ty tv tb to tx : TE} {ta tr : TA} {t u : TT} {tu tw tz : TS} {d a b c : D} {ds l : List D} {X : XK} {P P1 : Out → Sto → Prop} {R R1 : Res → Sto → Prop} {o : Out} {g : TG} {C : Addr}
theorem e_mof (h : EvM K te X M G R1) (hp : ∀ r M', R1 r M' → R r M') : EvM K te X M G R := ⟨fun {H0 F0 F H σ} E Q q qx => h.run E Q (fun d M' k => q d M' (hp _ _ k)) fun C M' k => qx C M' (hp _ _ k)⟩
/-- what hands something back and leaves the store as it was -/
theorem r_of (h : EvM K te X M G fun r M' => r = .ok d ∧ M' = M) : EvR K te M G d := ⟨fun {H0 F0 F H σ} E Q q => h.run E Q (fun d' M' k v F' H' E' f r => by
  obtain ⟨k1, rfl⟩ := k
  cases k1
  exact q v F' H' E' f r) fun C M' k => nomatch k.1⟩
/-- a raise, seen in a view -/
theorem e_mrs {te : (L2.St → XK) → TE} (h : RsD K te G' C) (w : VwG M G G') (hp : R (.exc C) M) : EvM K (te fun _ => X) X M G R := ⟨fun {H0 F0 F H σ} E Q q qx => h.run (E.view w) (fun _ => X) Q fun F1 H1 E1 f1 g1 n1 => by
  obtain ⟨B, b1, b2, b3⟩ := E.back E1 f1 g1 n1
  exact qx C M hp _ H1 B b1⟩
theorem m_view (h : EvD K te G' d) (w : VwG M G G') (hp : P (.nx G) M) : StM K (tDrop te) M G P := ⟨fun {H0 F0 F H σ E} En p => h (En.view w) _ fun v F1 H1 E1 f1 g1 n1 r1 => by
  obtain ⟨B, b1, b2, b3⟩ := En.back E1 f1 g1 n1
  exact p _ _ hp σ _ H1 B b1⟩
/-- arguments that change the store -/
structure EvSM (K : PySem.W.Frag) (ta : TA) (M : Sto) (G : List Sl) (R : List D → Sto → Prop) : Prop where
  run : ∀ {H0 F0 F H : Hp} {σ : L2.St}, EnM K H0 F0 F M H σ G → ∀ Q : List V → Hp → Prop, (∀ ds M', R ds M' → ∀ vs F' H', EnM K H0 F0 F' M' H' σ G → Ex F F' → RpA K F' vs ds → Q vs H') → ta σ H Q
theorem sm_nil {R : List D → Sto → Prop} (hp : R [] M) : EvSM K tNil M G R := ⟨fun {H0 F0 F H σ} E Q q => q [] M hp [] F H E (Ex.refl F) .nil⟩
theorem sm_cons {R : List D → Sto → Prop} (h : EvM K te X M G R1) (hx : ∀ C M', ¬ R1 (.exc C) M') (hr : ∀ d M', R1 (.ok d) M' → EvSM K tr M' G fun ds M'' => R (d :: ds) M'') : EvSM K (tCons te tr) M G R := ⟨fun {H0 F0 F H σ} E Q q =>
  h.run E _ (fun d M' k v F1 H1 E1 f1 r1 => (hr d M' k).run E1 _ fun ds M'' k2 vs F2 H2 E2 f2 r2 => q (d :: ds) M'' k2 (v :: vs) F2 H2 E2 (f1.trans f2) (.cons (r1.mono f2) r2)) fun C M' k => absurd k (hx C M')⟩
theorem e_mlst {R2 : List D → Sto → Prop} (h : EvSM K ta M G R2) (hl : ∀ ds M', R2 ds M' → ds.length ≤ 100000) (hp : ∀ ds M', R2 ds M' → R (.ok (.lst ds)) M') : EvM K (tLst ta) X M G R := ⟨fun {H0 F0 F H σ} E Q q qx =>
  h.run E _ fun ds M' k vs F1 H1 E1 f1 r1 => ⟨sz_of (by rw [r1.length]; exact hl ds M' k), fun p hpn => by
    have hF : F1 p = none := ex_none E1.en.ef hpn
    have ef : Ex F1 (upd F1 p (.lst vs)) := Ex.new hF
    exact q _ M' (hp ds M' k) (.ref p) (upd F1 p (.lst vs)) _ (E1.grow ef (Ex.new hpn) (ex_upd_both E1.en.ef) (nw_upd hpn (Nw.refl F1 H1))) (f1.trans ef) (.lst upd_same (r1.mono ef))⟩⟩
theorem e_mcb {r : List V → Hp → VK → Prop} (h : EvM K te X M G R1) (hr : ∀ d M', R1 (.ok d) M' → ∃ c, OpN K r [d] c ∧ R (.ok c) M') (hx : ∀ C M', R1 (.exc C) M' → R (.exc C) M') : EvM K (tCB r (tCons te tNil)) X M G R := ⟨fun {H0 F0 F H σ} E Q q qx =>
  h.run E _ (fun d M' k v F1 H1 E1 f1 r1 => by
    obtain ⟨c, k1, k2⟩ := hr d M' k
    exact k1.run E1.en.ef (.cons r1 .nil) Q fun z F3 H3 f3 e3 g3 n3 r3 => q c M' k2 z F3 H3 (E1.grow f3 g3 e3 n3) (f1.trans f3) r3) fun C M' k F1 H1 E1 f1 => qx C M' (hx C M' k) F1 H1 E1 f1⟩
theorem e_mop {r : R2} (h1 : EvM K te X M G R1) (h2 : ∀ d M', R1 (.ok d) M' → ∃ b c, EvR K tb M' G b ∧ Op2 K r d b c ∧ R (.ok c) M') (hx : ∀ C M', R1 (.exc C) M' → R (.exc C) M') : EvM K (tOp r te tb) X M G R := ⟨fun {H0 F0 F H σ} E Q q qx =>
  h1.run E _ (fun d M' k v F1 H1 E1 f1 r1 => by
    obtain ⟨b, c, k1, k2, k3⟩ := h2 d M' k
    exact k1.run E1 _ fun w F2 H2 E2 f2 r2 => k2.run E2.en.ef (r1.mono f2) r2 Q fun z F3 H3 f3 e3 g3 n3 r3 => q c M' k3 z F3 H3 (E2.grow f3 g3 e3 n3) ((f1.trans f2).trans f3) r3) fun C M' k F1 H1 E1 f1 => qx C M' (hx C M' k) F1 H1 E1 f1⟩
theorem e_mandV {y : Bool} (h1 : EvR K te M G (.bl true)) (h2 : EvM K tb X M G R) : EvM K (tAndV te tb) X M G R := ⟨fun {H0 F0 F H σ} E Q q qx => h1.run E _ fun v F1 H1 E1 f1 r1 => by
  cases r1
  exact ⟨true, rfl, h2.run E1 Q (fun d M' k v F' H' E' f r => q d M' k v F' H' E' (f1.trans f) r) fun C M' k F' H' E' f => qx C M' k F' H' E' (f1.trans f)⟩⟩
/-- a test that changes the store -/
structure TtM (K : PySem.W.Frag) (tt : TT) (M : Sto) (G : List Sl) (R : Bool → Sto → Prop) : Prop where
  run : ∀ {H0 F0 F H : Hp} {σ : L2.St}, EnM K H0 F0 F M H σ G → ∀ Q : Bool → Hp → Prop, (∀ b M', R b M' → ∀ F' H', EnM K H0 F0 F' M' H' σ G → Ex F F' → Q b H') → tt σ H Q
theorem tm_test {R2 : Bool → Sto → Prop} (h : EvM K te X M G R1) (hx : ∀ C M', ¬ R1 (.exc C) M') (hp : ∀ d M', R1 (.ok d) M' → ∃ b, d = .bl b ∧ R2 b M') : TtM K (tTest te) M G R2 := ⟨fun {H0 F0 F H σ} E Q q => h.run E _ (fun d M' k v F1 H1 E1 f1 r1 => by
  obtain ⟨b, rfl, k2⟩ := hp d M' k
  cases r1
  exact ⟨b, rfl, q b M' k2 F1 H1 E1 f1⟩) fun C M' k => absurd k (hx C M')⟩
theorem tm_B {R2 : Bool → Sto → Prop} (h : EvM K te X M G R1) (hx : ∀ C M', ¬ R1 (.exc C) M') (hp : ∀ d M', R1 (.ok d) M' → ∃ b, d = .bl b ∧ R2 b M') : TtM K (tB te) M G R2 := ⟨fun {H0 F0 F H σ} E Q q => h.run E _ (fun d M' k v F1 H1 E1 f1 r1 => by
  obtain ⟨b, rfl, k2⟩ := hp d M' k
  cases r1
  exact ⟨b, rfl, q b M' k2 F1 H1 E1 f1⟩) fun C M' k => absurd k (hx C M')⟩
theorem tm_not {R2 R3 : Bool → Sto → Prop} (h : TtM K t M G R2) (hp : ∀ b M', R2 b M' → R3 (!b) M') : TtM K (tNot t) M G R3 := ⟨fun {H0 F0 F H σ} E Q q => h.run E _ fun b M' k F1 H1 E1 f1 => q (!b) M' (hp b M' k) F1 H1 E1 f1⟩
theorem tm_of (h : TtR K t M G true) {R2 : Bool → Sto → Prop} (hp : R2 true M) : TtM K t M G R2 := ⟨fun {H0 F0 F H σ} E Q q => h.run E Q fun F1 H1 E1 f1 => q true M hp F1 H1 E1 f1⟩
theorem tm_ofF (h : TtR K t M G false) {R2 : Bool → Sto → Prop} (hp : R2 false M) : TtM K t M G R2 := ⟨fun {H0 F0 F H σ} E Q q => h.run E Q fun F1 H1 E1 f1 => q false M hp F1 H1 E1 f1⟩
/-- both are false -/
theorem tm_orF {R2 R3 : Bool → Sto → Prop} (h1 : TtM K t M G R2) (hb : ∀ b M', R2 b M' → b = false ∧ TtM K u M' G R3) : TtM K (tOr t u) M G R3 := ⟨fun {H0 F0 F H σ} E Q q => h1.run E _ fun b M' k F1 H1 E1 f1 => by
  obtain ⟨rfl, k2⟩ := hb b M' k
  exact k2.run E1 _ fun b' M'' k3 F2 H2 E2 f2 => q b' M'' k3 F2 H2 E2 (f1.trans f2)⟩
theorem m_ifM {R2 : Bool → Sto → Prop} (h : TtM K t M G R2) (h1 : ∀ M', R2 true M' → StM K tu M' G P) (h2 : ∀ M', R2 false M' → StM K tw M' G P) : StM K (tIfS t tu tw) M G P := ⟨fun {H0 F0 F H σ E} En p => h.run En _ fun b M' k F1 H1 E1 f1 => by
  cases b with
  | true =>
    show tu E σ H1
    exact (h1 M' k).run E1 fun o M' q => (p o M' q).weak f1
  | false =>
    show tw E σ H1
    exact (h2 M' k).run E1 fun o M' q => (p o M' q).weak f1⟩
theorem m_passM {R2 : Bool → Sto → Prop} (h : TtM K t M G R2) (hf : ∀ b M', R2 b M' → b = false) (h2 : ∀ M', R2 false M' → StM K tw M' G P) : StM K (tSeq (tIfS t tu tNext) tw) M G P :=
  m_seq (P1 := fun o M' => o = .nx G ∧ R2 false M') (m_ifM h (fun M' k => absurd (hf _ _ k) (by decide)) fun M' k => m_next ⟨rfl, k⟩) (fun G1 M1 k => by
    obtain ⟨k1, k2⟩ := k
    cases k1
    exact h2 M1 k2) fun o M1 k hn => absurd k.1 (hn _)

/-! try -/
theorem EnM.setN {H0 F0 F H : Hp} {σ : L2.St} (E : EnM K H0 F0 F M H σ G) (i : Nat) : EnM K H0 F0 F M H (σ.set i none) (G.set i .no) := ⟨E.en.setN i, E.st, E.h0, fun j w p h1 h2 => by
  by_cases q : i = j
  · subst q
    by_cases hl : i < G.length
    · rw [List.getElem?_set_self hl] at h1
      cases h1
    · rw [List.getElem?_eq_none (by rw [List.length_set]; omega)] at h1
      cases h1
  · rw [List.getElem?_set_ne q] at h1 h2
    exact E.ow j w p h1 h2⟩
/-- what is tried: it may raise to whatever is around -/
structure EvE (K : PySem.W.Frag) (te : (L2.St → XK) → TE) (M : Sto) (G : List Sl) (R : Res → Sto → Prop) : Prop where
  run : ∀ {H0 F0 F H : Hp} {σ : L2.St}, EnM K H0 F0 F M H σ G → ∀ (E : L2.St → XK) (Q : VK), (∀ d M', R (.ok d) M' → ∀ v F' H', EnM K H0 F0 F' M' H' σ G → Ex F F' → Rp K F' v d → Q v H') →
    (∀ C M', R (.exc C) M' → ∀ F' H', EnM K H0 F0 F' M' H' σ G → Ex F F' → E σ (.ref C) none H') → te E σ H Q
theorem m_try {te : (L2.St → XK) → TE} {cc : Value} {i m : Nat} (him : i ≠ m) (hi : i < G.length) (h : EvE K te M G R) (hp : ∀ d M', R (.ok d) M' → P (.nx G) M') (hx : ∀ C M', R (.exc C) M' → PySem.W.exmOne K (.ref C) cc = some true ∧ P (.nx ((G.set m (.dat (.exc C))).set i .no)) M') : StM K (tTry K cc i m te) M G P := ⟨fun {H0 F0 F H σ E} En p =>
  h.run En _ _ (fun d M' k v F1 H1 E1 f1 r1 => p _ _ (hp d M' k) σ F1 H1 E1 f1) fun C M' k F1 H1 E1 f1 => by
    obtain ⟨hc, k2⟩ := hx C M' k
    refine ⟨true, hc, fun _ a ha => ?_, fun q => nomatch q⟩
    have hl : i < σ.length := by
      rw [E1.en.len]
      exact hi
    refine ⟨.ref a, List.getElem?_set_self hl, ?_⟩
    have hF : F1 a = none := ex_none E1.en.ef ha
    have ef : Ex F1 (upd F1 a (ExK (.ref C) none a)) := Ex.new hF
    have E2 := E1.grow ef (Ex.new ha) (ex_upd_both E1.en.ef) (nw_upd ha (Nw.refl F1 H1))
    have E3 := (E2.setD (v := .ref a) (d := .exc C) (.exc upd_same) m).setN i
    have e : ((σ.set i (some (.ref a))).set m (some (.ref a))).set i none = (σ.set m (some (.ref a))).set i none := by
      rw [List.set_comm _ _ him, List.set_set]
    show E.nx (((σ.set i (some (.ref a))).set m (some (.ref a))).set i none) (upd H1 a (ExK (.ref C) none a))
    rw [e]
    exact p _ _ k2 _ _ _ E3 (f1.trans ef)⟩
theorem ee_call {Rel : RelM} {Pr : Res → Sto → Prop} (h : EvSR K ta M G ds) (hR : Rel ds M Pr) (hp : ∀ r M', Pr r M' → R r M') : EvE K (fun E => tCallS (spM K Rel) E ta) M G R := ⟨fun {H0 F0 F H σ} E X Q q qx =>
  h.run E _ fun vs F1 H1 E1 f1 r1 => by
    refine ⟨F1, ds, M, Pr, E1.en.ef, r1, E1.st, hR, fun r M' z => ?_⟩
    cases r with
    | ok d => exact fun v F2 H2 ro r2 => q d M' (hp _ _ z) v F2 H2 (E1.called ro) (f1.trans ro.ro.e1) r2
    | exc C => exact fun F2 H2 ro => qx C M' (hp _ _ z) F2 H2 (E1.called ro) (f1.trans ro.ro.e1)⟩
theorem ee_make {Rel : RelI} (h : EvSR K ta M G ds) (hR : ∀ x, M x = none → ∃ Pr : Res → Sto → Prop, Rel x ds M Pr ∧ (∀ d M', Pr (.ok d) M' → R (.ok (.ptr x)) M') ∧ ∀ C M', Pr (.exc C) M' → R (.exc C) M') : EvE K (fun E => tMakeS C (spMI K C Rel) E ta) M G R := ⟨fun {H0 F0 F H σ} E X Q q qx =>
  h.run E _ fun vs F1 H1 E1 f1 r1 => fun x dx hx hdx hne => by
    obtain ⟨Pr, k1, k2, k3⟩ := hR x (E1.free hx)
    refine ⟨F1, H1, x, dx, vs ++ [], ds, M, Pr, rfl, rfl, hx, hdx, hne, E1.en.ef, by rw [List.append_nil]; exact r1, E1.st, k1, fun r M' z => ?_⟩
    cases r with
    | ok d => exact fun F2 H2 ro => ⟨rfl, q _ M' (k2 d M' z) (.ref x) F2 H2 (E1.called ro) (f1.trans ro.ro.e1) (.ptr x)⟩
    | exc C => exact fun F2 H2 ro => qx C M' (k3 C M' z) F2 H2 (E1.called ro) (f1.trans ro.ro.e1)⟩

/-! loops -/
theorem m_for {wi : TI} {items : List D} (hi : ItD K wi G items) (C : Nat → List Sl) (J : Nat → Sto → Prop) (h0 : C 0 = G) (hJ : J 0 M) (T : Nat → List Sl) (ht : ∀ i d, items[i]? = some d → TgM K g (C i) d (T i))
    (hb : ∀ i M', i < items.length → J i M' → StM K tu M' (T i) fun o M'' => (∃ C', (o = .nx C' ∨ o = .ct C') ∧ Wk C' (C (i + 1)) ∧ J (i + 1) M'') ∨ (∃ C', o = .bk C' ∧ P (.nx C') M'') ∨ ((∃ d, o = .rt d) ∨ ∃ C X, o = .ex C X) ∧ P o M'') (hd : ∀ M', J items.length M' → P (.nx (C items.length)) M') : StM K (tFor wi g tu) M G P := by
  refine ⟨?_⟩
  intro H0 F0 F H σ E En p
  refine hi En.en _ fun Jt F1 H1 E1 f1 g1 n1 wk => ?_
  obtain ⟨Gp, Y, w, hg, hy⟩ := wk.ex
  have En1 := En.withG E1 f1 g1 n1
  refine for_it w (fun i σ H => ∃ F' M', EnM K H0 F0 F' M' H σ (C i) ∧ Ex F1 F' ∧ J i M') ⟨F1, M, by rw [h0]; exact En1, Ex.refl _, hJ⟩ (fun i σ H _ ⟨F', M', E', e', _⟩ => hg H (e'.trans E'.en.ef)) ?_ ?_
  · rintro i x σ2 H2 H3 hlt ⟨F', M', E', e', hj⟩ y
    obtain ⟨F2, d, k1, k2, k3, k4, hd2, r2⟩ := hy i H2 x H3 F' e' E'.en.ef y
    have E3 := E'.grow k1 k2 k3 k4
    refine (ht i d hd2).run E3 r2 _ fun σ4 E4 => ?_
    refine (hb i M' hlt hj).run E4 fun o M'' k => ?_
    rcases k with ⟨C', ho, hw, hj'⟩ | ⟨C', rfl, k2'⟩ | ⟨ho, k2'⟩
    · have next : ∀ (σ : L2.St) (F'' H'' : Hp), EnM K H0 F0 F'' M'' H'' σ C' → Ex F2 F'' → ∃ F' M', EnM K H0 F0 F' M' H'' σ (C (i + 1)) ∧ Ex F1 F' ∧ J (i + 1) M' := fun σ F'' H'' E'' f'' => ⟨F'', M'', E''.weak hw, (e'.trans k1).trans f'', hj'⟩
      rcases ho with rfl | rfl
      · exact fun σ F'' H'' E'' f'' => next σ F'' H'' E'' f''
      · exact fun σ F'' H'' E'' f'' => next σ F'' H'' E'' f''
    · exact fun σ F'' H'' E'' f'' => p _ _ k2' σ F'' H'' E'' ((((f1.trans e').trans k1).trans f''))
    · have := p _ _ k2'
      rcases ho with ⟨d', rfl⟩ | ⟨C', X', rfl⟩
      · exact this
      · exact this
  · rintro σ2 H2 ⟨F', M', E', e', hj⟩
    exact p _ _ (hd M' hj) σ2 F' H2 E' (f1.trans e')

/-! a few more words -/
theorem n_sum {ns : List Int} : OpN K (rSum K) [.lst (ns.map D.int)] (.int ns.sum) := op1_v fun {F H vs} e r => by
  obtain ⟨v, rfl, r1⟩ := rpa1 r
  cases r1 with
  | lst h2 s1 => exact ⟨.int ns.sum, .int _, fun Q q => ⟨_, ns, rfl, sq_of (e _ _ (by rw [h2, s1.ints])), q⟩⟩
abbrev tTru2 (K : PySem.W.Frag) (ta : TE) : TT := fun σ H Q => ta σ H fun x H' => ∃ k, TruV K x H' k ∧ Q k H'
theorem t_tru (h : EvD K te G (.lst l)) : EvTt K (tTru2 K te) G (!l.isEmpty) := .mk fun {H0 F0 F H σ} E Q q => h E _ fun v F1 H1 E1 f1 g1 n1 r1 => by
  cases r1 with
  | lst ha rs =>
    rename_i xs
    have e : xs.isEmpty = l.isEmpty := by cases rs <;> rfl
    exact ⟨_, .inl ⟨xs, sq_of (E1.ef _ _ ha), rfl⟩, by rw [e]; exact q F1 H1 E1 f1 g1 n1⟩

/-! {k: [] for k in x.f}, a dict of new lists -/
def updL (M : Sto) (la : List Addr) (n : Nd) : Sto := fun b => if b ∈ la then some n else M b
theorem updL_nil {M : Sto} {n : Nd} : updL M [] n = M := by
  funext b
  exact if_neg (fun h => nomatch h)
theorem updL_in {M : Sto} {la : List Addr} {b : Addr} {n : Nd} (h : b ∈ la) : updL M la n b = some n := if_pos h
theorem updL_out {M : Sto} {la : List Addr} {b : Addr} {n : Nd} (h : b ∉ la) : updL M la n b = M b := if_neg h
theorem updL_snoc {M : Sto} {la : List Addr} {a : Addr} {n : Nd} : updL M (la ++ [a]) n = updM (updL M la n) a n := by
  funext b
  by_cases h : b = a
  · subst h
    rw [updL_in (List.mem_append_right _ (List.mem_singleton.mpr rfl)), updM_same]
  · rw [updM_ne h]
    by_cases hb : b ∈ la
    · rw [updL_in hb, updL_in (List.mem_append_left _ hb)]
    · rw [updL_out hb, updL_out (fun q => (List.mem_append.mp q).elim hb fun z => h (List.mem_singleton.mp z))]
theorem En.addF {H0 F0 F H : Hp} {σ : L2.St} (E : Cy.En K H0 F0 F H σ G) {z : Addr} {o : HO} (hF : F z = none) (hH : H z = some o) (h0 : H0 z = none) (hw : ∀ (i : Nat) (w : Ow), G[i]? = some (.own w) → σ[i]? ≠ some (some (.ref z))) : Cy.En K H0 F0 (upd F z o) H σ G where
  dat := fun i d h => by
    obtain ⟨v, a, b⟩ := E.dat i d h
    exact ⟨v, a, b.mono (Ex.new hF)⟩
  own := fun i w h => by
    obtain ⟨p, u, a, b, c, d, r⟩ := E.own i w h
    have hne : p ≠ z := fun q => by
      subst q
      exact hw i w h a
    exact ⟨p, u, a, by rw [upd_ne hne]; exact b, c, d, r.mono (Ex.new hF)⟩
  dis := E.dis
  e0 := E.e0
  ef := fun a u q => by
    by_cases ha : a = z
    · subst ha
      rw [upd_same] at q
      cases q
      exact hH
    · rw [upd_ne ha] at q
      exact E.ef a u q
  e1 := E.e1.trans (Ex.new hF)
  nf := fun a u q => by
    by_cases ha : a = z
    · subst ha
      exact .inr h0
    · rw [upd_ne ha] at q
      exact E.nf a u q
  len := E.len
theorem EnM.addF {H0 F0 F H : Hp} {σ : L2.St} (E : EnM K H0 F0 F M H σ G) {z : Addr} {o : HO} (hF : F z = none) (hH : H z = some o) (h0 : H0 z = none) (hM : M z = none) (hw : ∀ (i : Nat) (w : Ow), G[i]? = some (.own w) → σ[i]? ≠ some (some (.ref z))) : EnM K H0 F0 (upd F z o) M H σ G :=
  ⟨E.en.addF hF hH h0 hw, fun a n q => by
    obtain ⟨k1, u, k2, k3⟩ := E.st a n q
    have hne : a ≠ z := fun y => by
      subst y
      rw [hM] at q
      cases q
    exact ⟨by rw [upd_ne hne]; exact k1, u, k2, k3.mono (Ex.new hF)⟩, E.h0, E.ow⟩
theorem EnM.aside {H0 F0 F H : Hp} {σ : L2.St} (E : EnM K H0 F0 F M H σ G) {z : Addr} {o : HO} (hF : F z = none) (h0 : H0 z = none) (hM : M z = none) (hw : ∀ (i : Nat) (w : Ow), G[i]? = some (.own w) → σ[i]? ≠ some (some (.ref z))) : EnM K H0 F0 F M (upd H z o) σ G :=
  ⟨E.en.aside hF h0 hw, fun a n q => by
    obtain ⟨k1, u, k2, k3⟩ := E.st a n q
    have hne : a ≠ z := fun y => by
      subst y
      rw [hM] at q
      cases q
    exact ⟨k1, u, by rw [upd_ne hne]; exact k2, k3⟩, E.h0, E.ow⟩
theorem upd_swap {H : Hp} {a b : Addr} {o u : HO} (h : a ≠ b) : upd (upd H a o) b u = upd (upd H b u) a o := by
  funext c
  by_cases ha : c = a
  · subst ha
    rw [upd_ne h, upd_same, upd_same]
  · by_cases hb : c = b
    · subst hb
      rw [upd_same, upd_ne ha, upd_same]
    · rw [upd_ne hb, upd_ne ha, upd_ne ha, upd_ne hb]
theorem upd_id {H : Hp} {a : Addr} {o : HO} (h : H a = some o) : upd H a o = H := by
  funext c
  by_cases ha : c = a
  · subst ha
    rw [upd_same, h]
  · rw [upd_ne ha]
theorem upd_back {H : Hp} {a : Addr} {o u : HO} (h : H a = some o) : upd (upd H a u) a o = H := by
  funext c
  by_cases ha : c = a
  · subst ha
    rw [upd_same, h]
  · rw [upd_ne ha, upd_ne ha]
theorem zip_snoc {α β : Type} {k : α} {x : β} : ∀ {ks : List α} {xs : List β} {n : Nat}, ks[n]? = some k → xs.length = n → ks.zip (xs ++ [x]) = ks.zip xs ++ [(k, x)]
  | [], xs, n, h, _ => by simp at h
  | a :: ks, [], n, h, hl => by
    subst hl
    simp at h
    subst h
    show (a, x) :: ks.zip [] = [(a, x)]
    rw [List.zip_nil_right]
  | a :: ks, b :: xs, n, h, hl => by
    subst hl
    have h' : ks[xs.length]? = some k := by simpa using h
    show (a, b) :: ks.zip (xs ++ [x]) = (a, b) :: (ks.zip xs ++ [(k, x)])
    rw [zip_snoc h' rfl]
/-- {k: [] for k in x.f}: x a thing in the store, x.f a dict that stays -/
theorem e_dcNew {i j : Nat} {x : Addr} {f : Str} {fs : List (Str × D)} {es : List (Key × D)} (hij : i ≠ j) (hjG : j < G.length) (hx : G[i]? = some (.dat (.ptr x))) (hm : M x = some (.ins C fs)) (hc : Cls K C) (hn : NoAttr K C f) (hf : fs.lookup f = some (.dic es)) (hu : (es.map fun p => p.1).Nodup) (hz : es.length ≤ 1000)
    (hp : ∀ la : List Addr, la.length = es.length → la.Nodup → (∀ a ∈ la, M a = none) → R (.ok (.dic ((es.map fun p => p.1).zip (la.map D.ptr)))) (updL M la (.lst []))) :
    EvM K (tLockE (tDc (iKeys (tFld K (tVar i) f)) (gName j) tYes (tVar j) (tLst tNil) [j])) X M G R := ⟨fun {H0 F0 F H σ} E Q q qx => by
  obtain ⟨v, hv, rv⟩ := E.en.dat i _ hx
  cases rv
  obtain ⟨_, o, hH, hb⟩ := E.st x _ hm
  cases hb with
  | ins h4 h5 =>
    rename_i dx gs
    obtain ⟨w, hw1, hw2⟩ := get_rp h4 h5 hf
    cases hw2 with
    | dic hd hk hr =>
      rename_i d kvs
      have hHd := E.en.ef _ _ hd
      have hxd : x ≠ d := fun z => by
        subst z
        rw [hH] at hHd
        cases hHd
      have hlen : kvs.length = es.length := by
        have := congrArg List.length hk
        rwa [List.length_map, List.length_map] at this
      refine ⟨d, _, hHd, trivial, fun od => ?_⟩
      unfold tDc iKeys
      refine ⟨.ref x, ?_, x, C, dx, gs, .ref d, rfl, by rw [upd_ne hxd]; exact hH, hc, hn, hw1, d, od, rfl, .inl ⟨kvs, upd_same, fun z hz1 => ?_⟩⟩
      · first | exact hv | exact ⟨_, hv⟩
      have hdz : d ≠ z := fun y => by
        subst y
        rw [upd_same] at hz1
        cases hz1
      have hHz : H z = none := by
        rw [upd_ne hdz.symm] at hz1
        exact hz1
      have hFz := ex_none E.en.ef hHz
      have h0z := ex_none E.en.e0 hHz
      refine ⟨fun n m H' => m + n = kvs.length ∧ H' d = some (.frz od (.dK kvs)) ∧ (∀ a, H' a = none → H a = none) ∧ ∃ la : List Addr, ∃ acc : List (Key × V), la.length = n ∧ la.Nodup ∧ (∀ a ∈ la, H a = none ∧ a ≠ z) ∧ acc = ((kvs.map fun p => p.1).zip (la.map V.ref)) ∧ H' z = some (.dK acc) ∧ EnM K H0 F0 F (updL M la (.lst [])) (upd H' d (.dK kvs)) σ G, ⟨kvs.length, rfl, by rw [upd_ne hdz]; exact upd_same, fun a h => ?_, [], [], rfl, List.nodup_nil, fun a h => (nomatch h), by rw [List.map_nil, List.zip_nil_right], upd_same, ?_⟩, ?_⟩
      · by_cases ha : a = z
        · rw [ha]
          exact hHz
        · rw [upd_ne ha] at h
          by_cases hb : a = d
          · rw [hb, upd_same] at h
            cases h
          · rw [upd_ne hb] at h
            exact h
      · rw [updL_nil, upd_swap (a := z) (b := d) hdz.symm, upd_upd, upd_id hHd]
        exact E.aside hFz h0z (E.free hHz) (E.freeO hHz)
      · rintro n m H2 ⟨hmn, hd2, hback, la, acc, hla, hnd, hfr, hacc, hz2, E2⟩
        rcases Nat.eq_or_lt_of_le (show n ≤ kvs.length by omega) with hlt | hlt
        · refine .inl ⟨⟨hd2, by omega⟩, hd2, ?_⟩
          have hMz : updL M la (.lst []) z = none := by
            rw [updL_out (fun h => (hfr z h).2 rfl)]
            exact E.free hHz
          have hzz : upd H2 d (.dK kvs) z = some (.dK acc) := by
            rw [upd_ne hdz.symm]
            exact hz2
          have E3 := E2.addF (o := .dK acc) hFz hzz h0z hMz (E.freeO hHz)
          have hl1 : (kvs.map fun p => p.1).length = (la.map V.ref).length := by rw [List.length_map, List.length_map]; omega
          have hl2 : (es.map fun p => p.1).length = (la.map D.ptr).length := by rw [List.length_map, List.length_map]; omega
          refine q _ _ (hp la (by omega) hnd fun a ha => E.free (hfr a ha).1) (.ref z) _ _ E3 (Ex.new hFz) (.dic upd_same ?_ ?_)
          · rw [hacc, List.map_fst_zip (by omega), List.map_fst_zip (by omega), hk]
          · rw [hacc, List.map_snd_zip (by omega), List.map_snd_zip (by omega)]
            have : ∀ l : List Addr, RpA K (upd F z (.dK acc)) (l.map V.ref) (l.map D.ptr) := fun l => by
              induction l with
              | nil => exact .nil
              | cons a l ih => exact .cons (.ptr a) ih
            rw [← hacc]
            exact this la
        · refine .inr ⟨⟨hd2, hlt⟩, fun H' => H' d = some (.frz od (.dK kvs)) ∧ (∀ a, H' a = none → H a = none) ∧ ∃ la : List Addr, ∃ acc : List (Key × V), la.length = n + 1 ∧ la.Nodup ∧ (∀ a ∈ la, H a = none ∧ a ≠ z) ∧ acc = ((kvs.map fun p => p.1).zip (la.map V.ref)) ∧ H' z = some (.dK acc) ∧ EnM K H0 F0 F (updL M la (.lst [])) (upd H' d (.dK kvs)) σ G, fun H' p' => ⟨m - 1, by omega, by omega, p'⟩, fun y H3 hy => ?_⟩
          obtain ⟨rfl, k, vv, hk1, rfl⟩ := hy
          refine ⟨by show ((L2.wipe σ [j]).set j (some (kV k))).set j none = L2.wipe σ [j]; show (((σ.set j none).set j (some (kV k))).set j none) = σ.set j none; rw [List.set_set, List.set_set], ?_⟩
          unfold tYes
          dsimp only
          rw [if_pos rfl]
          have hjl : j < σ.length := by
            rw [E.en.len]
            exact hjG
          refine ⟨kV k, List.getElem?_set_self (by rw [wipe_length]; exact hjl), ?_⟩
          refine ⟨sz_of (Nat.zero_le _), fun p hpn => ?_⟩
          have hpd : p ≠ d := fun y => by
            subst y
            rw [hd2] at hpn
            cases hpn
          have hpz : p ≠ z := fun y => by
            subst y
            rw [hz2] at hpn
            cases hpn
          have hlacc : acc.length = n := by
            rw [hacc, List.length_zip, List.length_map, List.length_map]
            omega
          have hHu : upd H3 d (.dK kvs) p = none := by
            rw [upd_ne hpd]
            exact hpn
          have hFp := ex_none E2.en.ef hHu
          have h0p := ex_none E2.en.e0 hHu
          have hMp : updL M la (.lst []) p = none := E2.free hHu
          have hpla : p ∉ la := fun y => by
            rw [updL_in y] at hMp
            cases hMp
          have hHp : H p = none := by
            exact hback p hpn
          have hnew : (acc.any fun kv => decide (kv.1 = k)) = false := by
            rw [← Bool.not_eq_true]
            intro hany
            obtain ⟨e1, he1, he2⟩ := List.any_eq_true.mp hany
            have he3 := of_decide_eq_true he2
            rw [hacc] at he1
            have hu' : (kvs.map fun p => p.1).Nodup := by
              rw [hk]
              exact hu
            obtain ⟨r, hr1, hr2⟩ := List.getElem_of_mem he1
            rw [List.getElem_zip] at hr2
            rw [List.length_zip, List.length_map, List.length_map] at hr1
            have hr3 : (kvs.map fun p => p.1)[r]'(by rw [List.length_map]; omega) = k := by
              rw [← he3, ← hr2]
            have hn3 : (kvs.map fun p => p.1)[n]'(by rw [List.length_map]; omega) = k := by
              rw [List.getElem_map]
              have := List.getElem?_eq_some_iff.mp hk1
              obtain ⟨h1, h2⟩ := this
              rw [h2]
            exact List.pairwise_iff_getElem.mp hu' r n (by rw [List.length_map]; omega) (by rw [List.length_map]; omega) (by omega) (hr3.trans hn3.symm)
          refine ⟨acc, k, rfl, by rw [upd_ne hpz.symm]; exact hz2, sz_lt (by omega), ?_, fun a h => ?_, la ++ [p], putK acc k (.ref p), by rw [List.length_append, hla]; rfl, ?_, ?_, ?_, upd_same, ?_⟩
          · rw [upd_ne hdz, upd_ne hpd.symm]
            exact hd2
          · by_cases ha : a = z
            · rw [ha]
              exact hHz
            · rw [upd_ne ha] at h
              by_cases hb : a = p
              · rw [hb]
                exact hHp
              · rw [upd_ne hb] at h
                exact hback a h
          · exact List.nodup_append.mpr ⟨hnd, List.nodup_cons.mpr ⟨fun h => (nomatch h), List.nodup_nil⟩, fun a ha b hb => by
              rw [List.mem_singleton] at hb
              subst hb
              exact fun y => hpla (y ▸ ha)⟩
          · intro a ha
            rcases List.mem_append.mp ha with y | y
            · exact hfr a y
            · rw [List.mem_singleton.mp y]
              exact ⟨hHp, hpz⟩
          · unfold putK
            rw [hnew, List.map_append, hacc]
            refine (zip_snoc ?_ (by rw [List.length_map, hla])).symm
            rw [List.getElem?_map, hk1]
            rfl
          · rw [updL_snoc, upd_swap (a := z) (b := d) hdz.symm, upd_swap (a := p) (b := d) hpd]
            have E3 := E2.grow (Ex.refl F) (Ex.new (o := .lst []) hHu) (E2.en.ef.trans (Ex.new hHu)) (Nw.refl F _)
            have E4 := E3.new (n := .lst []) upd_same hFp h0p (fun j w hj hs => E2.freeO hHu j w hj hs) (.lst .nil)
            refine E4.aside hFz h0z ?_ (fun j w hj hs => E.freeO hHz j w hj hs)
            rw [updM_ne hpz.symm, updL_out (fun h => (hfr z h).2 rfl)]
            exact E.free hHz⟩
end
end Cy

set_option Elab.async false
set_option linter.all false
set_option maxRecDepth 100000
set_option maxHeartbeats 4000000
namespace Cy
open PySem PySem.Spec PyProof.Rows L2 Evl
section
variable {K : PySem.W.Frag} {M M1 M2 : Sto} {G G' G1 : List Sl} {te td ty tv tb to tx : TE} {ta tr : TA} {t u : TT} {tu tw tz : TS} {d a b c : D} {ds l : List D} {X : XK} {P P1 : Out → Sto → Prop} {R R1 : Res → Sto → Prop} {o : Out} {g : TG} {C : Addr}
/-- a def that may raise, and else ends without a return -/
theorem body_XN {N : List Str} {R : List D → Res → Prop} {vs : List V} {H : Hp} {Q : VK} {E : XK} {t : XK → TS} (h : spX K R vs H Q E) (hn : ∀ ds d, R ds d → ds.length ≤ N.length)
    (hb : ∀ ds r (E : XK), R ds r → (r = .ok .non ∧ ∃ G, StD K (t E) (args N.length ds) (.nx G)) ∨ ∃ C, r = .exc C ∧ StD K (t E) (args N.length ds) (.ex C E)) : t E { nx := fun _ H' => Q .non H', rt := Q } (start N vs) H := by
  obtain ⟨F, ds, r, e, ra, hR, q⟩ := h
  rcases hb ds r E hR with ⟨rfl, G, hs⟩ | ⟨C, rfl, hs⟩
  · exact hs (start_en e ra (hn ds _ hR)) fun σ F' H' E' f' => q .non F' H' E'.ro .non
  · exact hs (start_en e ra (hn ds _ hR)) fun F' H' ro => q F' H' ro
theorem st_dropRs {te : (L2.St → XK) → TE} (h : RsD K te G C) : StD K (tDrop (te fun _ => X)) G (.ex C X) := .mk fun {H0 F0 F H σ E} En p => h.run En (fun _ => X) _ fun F1 H1 E1 f1 g1 n1 => p F1 H1 E1.ro
theorem st_asgRs {te : (L2.St → XK) → TE} (h : RsD K te G C) : StD K (tAsg (te fun _ => X) g) G (.ex C X) := .mk fun {H0 F0 F H σ E} En p => h.run En (fun _ => X) _ fun F1 H1 E1 f1 g1 n1 => p F1 H1 E1.ro
theorem st_retRs {te : (L2.St → XK) → TE} (h : RsD K te G C) : StD K (tRet (te fun _ => X)) G (.ex C X) := .mk fun {H0 F0 F H σ E} En p => h.run En (fun _ => X) _ fun F1 H1 E1 f1 g1 n1 => p F1 H1 E1.ro
theorem rs_dget {te : (L2.St → XK) → TE} (h : EvD K td G d) (h2 : RsD K te G C) : RsD K (fun E => tDGet td (te E)) G C := .mk fun {H0 F0 F H σ} En E Q q => h En _ fun v F1 H1 E1 f1 g1 n1 r1 => h2.run E1 E _ fun F2 H2 E2 f2 g2 n2 => q F2 H2 E2 (f1.trans f2) (g1.trans g2) (n1.trans n2 g1)
/-- .. over the store -/
theorem m_dropX {te : (L2.St → XK) → TE} (h : RsD K te G' C) (w : VwG M G G') (hp : P (.ex C X) M) : StM K (tDrop (te fun _ => X)) M G P := m_dropM (e_mrs (R := fun r M' => r = .exc C ∧ M' = M) h w ⟨rfl, rfl⟩) (fun d M' k => nomatch k.1) fun C' M' k => by
  obtain ⟨k1, rfl⟩ := k
  cases k1
  exact hp
theorem m_retX {te : (L2.St → XK) → TE} (h : RsD K te G' C) (w : VwG M G G') (hp : P (.ex C X) M) : StM K (tRet (te fun _ => X)) M G P := m_retM (e_mrs (R := fun r M' => r = .exc C ∧ M' = M) h w ⟨rfl, rfl⟩) (fun d M' k => nomatch k.1) fun C' M' k => by
  obtain ⟨k1, rfl⟩ := k
  cases k1
  exact hp
theorem hu1 {k : Nat} {A : Around} (hr : Room k A) : A.units + 1 < cLine := by
  have := hr.units
  omega
/-- a bigger store -/
def Ext (M M' : Sto) : Prop := ∀ a n, M a = some n → M' a = some n
theorem Ext.refl (M : Sto) : Ext M M := fun _ _ h => h
theorem Ext.trans (h : Ext M M1) (h2 : Ext M1 M2) : Ext M M2 := fun a n q => h2 a n (h a n q)
theorem ext_new {a : Addr} {n : Nd} (h : M a = none) : Ext M (updM M a n) := fun b m q => by
  have hne : b ≠ a := fun z => by
    subst z
    rw [h] at q
    cases q
  rw [updM_ne hne]
  exact q
theorem ext_newL {la : List Addr} {n : Nd} (h : ∀ a ∈ la, M a = none) : Ext M (updL M la n) := fun b m q => by
  have hne : b ∉ la := fun z => by
    rw [h b z] at q
    cases q
  rw [updL_out hne]
  exact q
theorem law_endM {Rel : RelM} {H : Hp} {a : Addr} {ns : List Int} {Pr : Res → Sto → Prop} {E : XK} (hS : SqL K H a (ns.map V.int)) (hR : Rel [.scr ns] (fun _ => none) Pr) (hp : ∀ r M', Pr r M' → r = .ok (.bl true)) : spM K Rel [.ref a] H (fun v _ => v = .bl true) E := by
  refine ⟨H, [.scr ns], fun _ => none, Pr, Ex.refl H, .cons (.scr hS) .nil, fun b n h => (nomatch h), hR, fun r M' k => ?_⟩
  have e := hp r M' k
  subst e
  exact fun v F' H' ro r1 => rp_bl r1
end
end Cy

set_option Elab.async false
set_option linter.all false
set_option maxRecDepth 100000
set_option maxHeartbeats 4000000
namespace Cy
open PySem PySem.Spec PyProof.Rows L2 Evl
/-! a dict that is locked while it is walked: what stands beside it -/
mutual
/-- no dict, no thing, no script in it -/
def plnD : D → Bool
  | .non => true
  | .bl _ => true
  | .int _ => true
  | .str _ => true
  | .ptr _ => true
  | .lst xs => plnA xs
  | .tup xs => plnA xs
  | _ => false
def plnA : List D → Bool
  | [] => true
  | x :: xs => plnD x && plnA xs
end
section
variable {K : PySem.W.Frag} {F : Hp} {a : Addr} {o : HO}
mutual
theorem Rp.beside (hN : ∀ xs, F a ≠ some (.lst xs) ∧ F a ≠ some (.tup xs)) : ∀ {v : V} {d : D}, Rp K F v d → plnD d = true → Rp K (upd F a o) v d
  | _, _, .non, _ => .non
  | _, _, .bl b, _ => .bl b
  | _, _, .int i, _ => .int i
  | _, _, .str x, _ => .str x
  | _, _, .ptr a, _ => .ptr a
  | _, .tup ds, .tup h r, q => .tup (by
      rw [upd_ne (fun z => (hN _).2 (by rw [← z]; exact h))]
      exact h) (RpA.beside hN r (by unfold plnD at q; exact q))
  | _, .lst ds, .lst h r, q => .lst (by
      rw [upd_ne (fun z => (hN _).1 (by rw [← z]; exact h))]
      exact h) (RpA.beside hN r (by unfold plnD at q; exact q))
  | _, .dic _, .dic _ _ _, q => by unfold plnD at q; cases q
  | _, .obj _ _, .obj _ _ _, q => by unfold plnD at q; cases q
  | _, .exc _, .exc _, q => by unfold plnD at q; cases q
  | _, .scr _, .scr _, q => by unfold plnD at q; cases q
theorem RpA.beside (hN : ∀ xs, F a ≠ some (.lst xs) ∧ F a ≠ some (.tup xs)) : ∀ {vs : List V} {ds : List D}, RpA K F vs ds → plnA ds = true → RpA K (upd F a o) vs ds
  | _, _, .nil, _ => .nil
  | _, d :: ds, .cons r t, q => by
    unfold plnA at q
    rw [Bool.and_eq_true] at q
    exact .cons (Rp.beside hN r q.1) (RpA.beside hN t q.2)
end
end
theorem plnA_mem : ∀ {l : List D}, plnA l = true → ∀ d ∈ l, plnD d = true
  | x :: xs, h, d, hd => by
    unfold plnA at h
    rw [Bool.and_eq_true] at h
    rcases List.mem_cons.mp hd with z | z
    · rw [z]
      exact h.1
    · exact plnA_mem h.2 d z
theorem plnA_of : ∀ {l : List D}, (∀ d ∈ l, plnD d = true) → plnA l = true
  | [], _ => by
    unfold plnA
    rfl
  | x :: xs, h => by
    unfold plnA
    rw [h x List.mem_cons_self, plnA_of fun d hd => h d (List.mem_cons_of_mem _ hd)]
    rfl
/-- what is still looked at in the walk -/
inductive Lk : List Sl → List Sl → Prop
  | nil : Lk [] []
  | keep {d : D} {G G' : List Sl} : plnD d = true → Lk G G' → Lk (.dat d :: G) (.dat d :: G')
  | drop {s : Sl} {G G' : List Sl} : Lk G G' → Lk (s :: G) (.no :: G')
theorem Lk.length : ∀ {G G' : List Sl}, Lk G G' → G.length = G'.length
  | _, _, .nil => rfl
  | _, _, .keep _ h => congrArg (· + 1) h.length
  | _, _, .drop h => congrArg (· + 1) h.length
theorem Lk.get : ∀ {G G' : List Sl} {i : Nat} {s : Sl}, Lk G G' → G'[i]? = some s → s = .no ∨ ∃ d, s = .dat d ∧ plnD d = true ∧ G[i]? = some (.dat d)
  | _, _, 0, s, .keep (d := d) p _, h => by
    have : Sl.dat d = s := by simpa using h
    exact .inr ⟨d, this.symm, p, rfl⟩
  | _, _, 0, s, .drop _, h => by
    have : Sl.no = s := by simpa using h
    exact .inl this.symm
  | _, _, i + 1, s, .keep _ l, h => by
    simpa only [List.getElem?_cons_succ] using l.get (by simpa only [List.getElem?_cons_succ] using h)
  | _, _, i + 1, s, .drop l, h => by
    simpa only [List.getElem?_cons_succ] using l.get (by simpa only [List.getElem?_cons_succ] using h)
section
variable {K : PySem.W.Frag} {H0 F0 F H : Hp} {σ : L2.St} {G G' : List Sl}
/-- while it is locked -/
theorem En.locked (E : Cy.En K H0 F0 F H σ G) (w : Lk G G') {a : Addr} {o z : HO} (ha : F a = some o) (hN : ∀ xs, o ≠ .lst xs ∧ o ≠ .tup xs) : Cy.En K (upd H a z) (upd F a z) (upd F a z) (upd H a z) σ G' where
  dat := fun i d h => by
    rcases w.get h with q | ⟨d', q1, q2, q3⟩
    · cases q
    · cases q1
      obtain ⟨v, k1, k2⟩ := E.dat i d q3
      exact ⟨v, k1, k2.beside (fun xs => ⟨fun q => (hN xs).1 (by rw [ha] at q; cases q; rfl), fun q => (hN xs).2 (by rw [ha] at q; cases q; rfl)⟩) q2⟩
  own := fun i u h => by
    rcases w.get h with q | ⟨d', q1, _⟩
    · cases q
    · cases q1
  dis := fun i j li lj p _ h => by
    rcases w.get h with q | ⟨d', q1, _⟩
    · cases q
    · cases q1
  e0 := Ex.refl _
  ef := fun b u h => by
    by_cases q : b = a
    · subst q
      rw [upd_same] at h ⊢
      exact h
    · rw [upd_ne q] at h ⊢
      exact E.ef _ _ h
  e1 := Ex.refl _
  nf := fun b u h => .inl h
  len := by rw [E.len, w.length]
/-- behind it -/
theorem En.opened (E : Cy.En K H0 F0 F H σ G) {a : Addr} {o z : HO} {F2 H2 : Hp} (ha : F a = some o) (E2 : Cy.En K (upd H a z) (upd F a z) F2 H2 σ G') (f2 : Ex (upd F a z) F2) (g2 : Ex (upd H a z) H2) (n2 : Nw (upd F a z) F2 (upd H a z)) :
    Cy.En K H0 F0 (upd F2 a o) (upd H2 a o) σ G ∧ Ex F (upd F2 a o) ∧ Ex H (upd H2 a o) ∧ Nw F (upd F2 a o) H := by
  have e1 : Ex F (upd F2 a o) := fun b u h => by
    by_cases q : b = a
    · subst q
      rw [ha] at h
      rw [upd_same]
      exact h
    · rw [upd_ne q]
      exact f2 b u (by rw [upd_ne q]; exact h)
  have e2 : Ex H (upd H2 a o) := fun b u h => by
    by_cases q : b = a
    · subst q
      rw [E.ef _ _ ha] at h
      rw [upd_same]
      exact h
    · rw [upd_ne q]
      exact g2 b u (by rw [upd_ne q]; exact h)
  have e3 : Ex (upd F2 a o) (upd H2 a o) := fun b u h => by
    by_cases q : b = a
    · subst q
      rw [upd_same] at h ⊢
      exact h
    · rw [upd_ne q] at h ⊢
      exact E2.ef _ _ h
  have n : Nw F (upd F2 a o) H := fun b u h => by
    by_cases q : b = a
    · subst q
      rw [upd_same] at h
      exact .inl (by rw [ha]; exact h)
    · rw [upd_ne q] at h
      rcases n2 b u h with y | y
      · exact .inl (by rw [upd_ne q] at y; exact y)
      · exact .inr (by rw [upd_ne q] at y; exact y)
  exact ⟨E.grow e1 e2 e3 n, e1, e2, n⟩
end
section
variable {K : PySem.W.Frag} {G : List Sl} {g : TG} {tt : TT} {te : TE}
theorem lc_at {J : It} {H0 F0 F1 H1 : Hp} {σ : L2.St} {items : List D} {vs : List Nat} (f : Nat → Bool) (v : Nat → D) (T : Nat → List Sl) (hk : Keeps g vs) (E1 : Cy.En K H0 F0 F1 H1 σ G) (wk : WkD K F1 J items) (hz : items.length ≤ 40000)
    (ht : ∀ i d, items[i]? = some d → TgD K g (wipeG G vs) d (T i)) (hf : ∀ i, i < items.length → EvTt K tt (T i) (f i)) (hv : ∀ i, i < items.length → f i = true → EvD K te (T i) (v i)) :
    ∀ Q : VK, (∀ p xs F' H', Cy.En K H0 F0 F' H' σ G → Ex F1 F' → Ex H1 H' → Nw F1 F' H1 → H1 p = none → F' p = none → H' p = some (.lst xs) → RpA K F' xs (lcD items.length f v) → Q (.ref p) H') → tLc (fun σ H R => R J H) g tt te vs σ H1 Q := by
  intro Q q
  obtain ⟨Gp, Y, w, hg, hy⟩ := wk.ex
  intro Dl hD
  refine lc_it w (fun i H' => ∃ F' acc, Cy.En K H0 F0 F' H' σ G ∧ Ex F1 F' ∧ Ex H1 H' ∧ Nw F1 F' H1 ∧ F' Dl = none ∧ H' Dl = some (.lst acc) ∧ RpA K F' acc (lcD i f v)) ?_ (fun i H' _ ⟨F', acc, E', e', _⟩ => hg H' (e'.trans E'.ef)) ?_ ?_
  · exact ⟨F1, [], E1.grow (Ex.refl _) (Ex.new hD) (E1.ef.trans (Ex.new hD)) (Nw.refl _ _), Ex.refl _, Ex.new hD, Nw.refl _ _, ex_none E1.ef hD, upd_same, .nil⟩
  · rintro i x H2 H3 hlt ⟨F', acc, E', e', gg, nn, hF, hH, hr⟩ y
    obtain ⟨F2, d, k1, k2, k3, k4, hd2, r2⟩ := hy i H2 x H3 F' e' E'.ef y
    have E3 : Cy.En K H0 F0 F2 H3 σ G := E'.grow k1 k2 k3 k4
    refine hk x σ H3 _ ?_
    refine ht i d hd2 (E3.wipe vs) r2 _ fun σ4 E4 => ?_
    have nD : Dl ≠ Dl ∨ True := .inr trivial
    have hH3 : H3 Dl = some (.lst acc) := k2 _ _ hH
    have hF2 : F2 Dl = none := by
      cases z : F2 Dl with
      | none => rfl
      | some o =>
        rcases k4 Dl o z with y | y
        · rw [hF] at y
          cases y
        · rw [hH] at y
          cases y
    have n2 : Nw F1 F2 H1 := nn.trans k4 gg
    refine hf i hlt E4 _ fun F5 H5 E5 f5 g5 n5 => ?_
    have hF5 : F5 Dl = none := by
      cases z : F5 Dl with
      | none => rfl
      | some o =>
        rcases n5 Dl o z with y | y
        · rw [hF2] at y
          cases y
        · rw [hH3] at y
          cases y
    have E5' : Cy.En K H0 F0 F5 H5 σ G := E3.grow f5 g5 E5.ef n5
    have n5' : Nw F1 F5 H1 := n2.trans n5 (gg.trans k2)
    cases hfi : f i with
    | true =>
      show te σ4 H5 _
      refine hv i hlt hfi E5 _ fun v6 F6 H6 E6 f6 g6 n6 r6 => ?_
      have hH6 : H6 Dl = some (.lst acc) := g6 _ _ (g5 _ _ hH3)
      have hF6 : F6 Dl = none := by
        cases z : F6 Dl with
        | none => rfl
        | some o =>
          rcases n6 Dl o z with y | y
          · rw [hF5] at y
            cases y
          · rw [g5 _ _ hH3] at y
            cases y
      have hlen : acc.length ≤ i := by
        rw [hr.length]
        exact lcD_len i f v
      have n6' : Nw F1 F6 H1 := n5'.trans n6 ((gg.trans k2).trans g5)
      refine ⟨acc, hH6, sz_lt (by omega), F6, acc ++ [v6], ?_, ((e'.trans k1).trans f5).trans f6, ?_, n6', hF6, upd_same, ?_⟩
      · have E6' : Cy.En K H0 F0 F6 H6 σ G := E5'.grow f6 g6 E6.ef n6
        refine ⟨E6'.dat, fun j l h => ?_, E6'.dis, fun a o h => ?_, fun a o h => ?_, E6'.e1, E6'.nf, E6'.len⟩
        · obtain ⟨p, xs, a1, b1, c1, d1, r1⟩ := E1.own j l h
          obtain ⟨p2, xs2, a2, b2, c2, d2, r2⟩ := E6'.own j l h
          rw [a1] at a2
          cases a2
          have hne : p ≠ Dl := ne_of_none d1 hD
          exact ⟨p, xs2, a1, b2, c2, by rw [upd_ne hne]; exact d2, r2⟩
        · have hne : a ≠ Dl := fun z => by
            subst z
            rw [ex_none E1.e0 hD] at h
            cases h
          rw [upd_ne hne]
          exact E6'.e0 a o h
        · have hne : a ≠ Dl := fun z => by
            subst z
            rw [hF6] at h
            cases h
          rw [upd_ne hne]
          exact E6'.ef a o h
      · exact Ex.mut (((gg.trans k2).trans g5).trans g6) hD
      · rw [lcD_yes hfi]
        exact (hr.mono ((k1.trans f5).trans f6)).app (.cons r6 .nil)
    | false =>
      refine ⟨F5, acc, E5', (e'.trans k1).trans f5, (gg.trans k2).trans g5, n5', hF5, g5 _ _ hH3, ?_⟩
      rw [lcD_no hfi]
      exact hr.mono (k1.trans f5)
  · rintro H2 ⟨F', acc, E', e', gg, nn, hF, hH, hr⟩
    exact q Dl acc F' H2 E' e' gg nn hD hF hH hr
end
/-! [.. for k, v in x.f.items()] -/
def itemD (p : Key × D) : D := .tup [keyD p.1, p.2]
def pfst (d : D) : D := match d with
  | .tup [a, _] => a
  | _ => .non
def psnd (d : D) : D := match d with
  | .tup [_, b] => b
  | _ => .non
theorem wk_items {K : PySem.W.Frag} {F : Hp} {a : Addr} {od : Obj} {kvs : List (Key × V)} {es : List (Key × D)} (ha : F a = some (.frz od (.dK kvs))) (hk : kvs.map (fun p => p.1) = es.map (fun p => p.1)) (r : RpA K F (kvs.map fun p => p.2) (es.map fun p => p.2)) : WkD K F (Iti a od kvs) (es.map itemD) := by
  have hl : (es.map itemD).length = kvs.length := by
    have := congrArg List.length hk
    rw [List.length_map, List.length_map] at this
    rw [List.length_map, this]
  refine ⟨fun H => H a = some (.frz od (.dK kvs)), fun i H x H' => ∃ T k v, kvs[i]? = some (k, v) ∧ x = .ref T ∧ H T = none ∧ H' = upd H T (.tup [kV k, v]), by
    rw [hl]
    exact ⟨fun i H hi g => ⟨g, hi⟩, fun H g => ⟨g, Nat.le_refl _⟩, fun i H x H' hi g y => y⟩, fun H e => e _ _ ha, fun i H x H' F1 e1 e2 y => ?_⟩
  obtain ⟨T, k, v, h1, rfl, hT, rfl⟩ := y
  have hi : i < kvs.length := (List.getElem?_eq_some_iff.mp h1).1
  have hi2 : i < es.length := by
    rw [List.length_map] at hl
    omega
  have hF1 : F1 T = none := ex_none e2 hT
  obtain ⟨v', q1, q2⟩ := r.get (List.getElem?_eq_getElem (l := es.map fun p => p.2) (i := i) (by rw [List.length_map]; exact hi2))
  rw [List.getElem?_map, h1] at q1
  cases q1
  have hk2 : k = (es[i]'hi2).1 := by
    have z := congrArg (fun l => l[i]?) hk
    simp only [List.getElem?_map, h1, List.getElem?_eq_getElem hi2, Option.map_some] at z
    exact Option.some.inj z
  refine ⟨upd F1 T (.tup [kV k, v]), itemD (es[i]'hi2), Ex.new hF1, Ex.new hT, ex_upd_both e2, nw_upd hT (Nw.refl F1 H), ?_, .tup upd_same (.cons ?_ (.cons ?_ .nil))⟩
  · rw [List.getElem?_map, List.getElem?_eq_getElem hi2]
    rfl
  · rw [← hk2]
    exact rp_key k
  · rw [List.getElem_map] at q2
    exact (q2.mono e1).mono (Ex.new hF1)
theorem o_lcItems {K : PySem.W.Frag} {G G' : List Sl} {te : TE} {i j m : Nat} {f : Str} {C : Addr} {fs : List (Str × D)} {es : List (Key × D)} (hjm : j ≠ m) (hs : G[i]? = some (.dat (.obj C fs))) (hc : Cls K C) (hn : NoAttr K C f) (hf : fs.lookup f = some (.dic es)) (hz : es.length ≤ 40000) (w : Lk G G') (hp : ∀ p ∈ es, plnD p.2 = true)
    (x : D → D) (hv : ∀ p, p ∈ es → EvD K te (((wipeG G' [j, m]).set j (.dat (keyD p.1))).set m (.dat p.2)) (x (itemD p))) (hx : ∀ p ∈ es, plnD (x (itemD p)) = true) :
    EvO K (tLockE (tLc (iItems (tFld K (tVar i) f)) (gTup K 2 (gCons (gName j) (gCons (gName m) gNil))) tYes te [j, m])) G ((es.map itemD).map x) := .mk fun {H0 F0 F H σ} E Q q => by
  obtain ⟨v, hv1, rv⟩ := E.dat i _ hs
  cases rv with
  | obj h1 h2 h3 =>
    rename_i b dx gs
    obtain ⟨u, k1, k2⟩ := lookup_rp h2 h3 hf
    cases k2 with
    | dic ha hk hr =>
      rename_i a kvs
      have hab : b ≠ a := fun y => by
        subst y
        rw [h1] at ha
        cases ha
      refine ⟨a, _, E.ef _ _ ha, trivial, fun od => ?_⟩
      have hN : ∀ xs, (HO.dK kvs) ≠ .lst xs ∧ (HO.dK kvs) ≠ .tup xs := fun xs => ⟨(fun y => nomatch y), (fun y => nomatch y)⟩
      have hNF : ∀ xs, F a ≠ some (.lst xs) ∧ F a ≠ some (.tup xs) := fun xs => ⟨(fun y => by rw [ha] at y; cases y), (fun y => by rw [ha] at y; cases y)⟩
      have EL := E.locked (z := .frz od (.dK kvs)) w ha hN
      have hr' : RpA K (upd F a (.frz od (.dK kvs))) (kvs.map fun p => p.2) (es.map fun p => p.2) := hr.beside hNF (plnA_of fun d hd => by
        obtain ⟨p, hp1, rfl⟩ := List.mem_map.mp hd
        exact hp p hp1)
      have hFl : (upd F a (.frz od (.dK kvs))) a = some (.frz od (.dK kvs)) := upd_same
      have wk := wk_items hFl hk hr'
      have hl : (es.map itemD).length ≤ 40000 := by
        rw [List.length_map]
        exact hz
      have e : (es.map itemD).map x = lcD (es.map itemD).length (fun _ => true) (fun i => x ((es.map itemD).getD i .non)) := by
        have := lcD_items (es.map itemD) (fun _ => true) x
        rw [this, filter_true]
      have hget : ∀ n, n < (es.map itemD).length → ∃ p ∈ es, (es.map itemD).getD n .non = itemD p := fun n hn => by
        obtain ⟨p, h1, h2⟩ := List.mem_map.mp (getD_in D.non (es.map itemD) n hn)
        exact ⟨p, h1, h2.symm⟩
      refine ⟨.ref b, hv1, b, C, dx, gs, .ref a, rfl, by rw [upd_ne hab]; exact E.ef _ _ h1, hc, hn, k1, a, od, kvs, rfl, upd_same, ?_⟩
      have fin : tLc (fun σ H R => R (Iti a od kvs) H) (gTup K 2 (gCons (gName j) (gCons (gName m) gNil))) tYes te [j, m] σ (upd H a (.frz od (.dK kvs))) (fun v H' => H' a = some (.frz od (.dK kvs)) ∧ Q v (upd H' a (.dK kvs))) := by
       refine lc_at (J := Iti a od kvs) (G := G') (tt := tYes) (fun _ => true) (fun n => x ((es.map itemD).getD n .non)) (fun n => ((wipeG G' [j, m]).set j (.dat (pfst ((es.map itemD).getD n .non)))).set m (.dat (psnd ((es.map itemD).getD n .non)))) (keeps2 hjm) EL wk hl (fun n d h => ?_) (fun n hn => t_yes) (fun n hn _ => ?_) _ (fun p xs F2 H2 E2 f2 g2 n2 hp2 hF2 hH2 hr2 => ?_)
       · obtain ⟨h1, h2⟩ := List.getElem?_eq_some_iff.mp h
         rw [getD_of h1, h2]
         obtain ⟨p, _, rfl⟩ := List.mem_map.mp (h2 ▸ List.getElem_mem h1)
         exact g_tup (gs_cons g_name (gs_cons g_name gs_nil)) rfl
       · obtain ⟨p, h1, h2⟩ := hget n hn
         show EvD K te _ (x ((es.map itemD).getD n .non))
         rw [h2]
         exact hv p h1
       · have hpa : p ≠ a := fun y => by
           subst y
           rw [upd_same] at hp2
           cases hp2
         obtain ⟨E3, f3, g3, n3⟩ := E.opened ha E2 f2 g2 n2
         refine ⟨g2 _ _ upd_same, q p xs _ _ E3 f3 g3 n3 (by rw [upd_ne hpa] at hp2; exact hp2) (by rw [upd_ne hpa]; exact hF2) (by rw [upd_ne hpa]; exact hH2) ?_⟩
         rw [e]
         have hFa : F2 a = some (.frz od (.dK kvs)) := f2 _ _ upd_same
         refine hr2.beside (fun xs => ⟨(fun y => by rw [hFa] at y; cases y), (fun y => by rw [hFa] at y; cases y)⟩) ?_
         rw [← e]
         exact plnA_of fun d hd => by
           obtain ⟨d', hd', rfl⟩ := List.mem_map.mp hd
           obtain ⟨p', hp', rfl⟩ := List.mem_map.mp hd'
           exact hx p' hp'
      exact fin
end Cy

set_option Elab.async false
set_option linter.all false
set_option maxRecDepth 100000
set_option maxHeartbeats 4000000
namespace Cy
open PySem PySem.Spec PyProof.Rows L2 Evl
section
variable {K : PySem.W.Frag} {M M1 M2 : Sto} {G G' G1 : List Sl} {te td ty tv tb to tx : TE} {ta tr : TA} {t u : TT} {tu tw tz : TS} {d a b c : D} {ds l : List D} {X : XK} {P P1 : Out → Sto → Prop} {R R1 : Res → Sto → Prop} {o : Out} {g : TG} {C : Addr}
/-- *e in a tuple -/
theorem s_star {es : List D} (h : EvD K te G (.tup es)) (hr : EvS K tr G ds) : EvS K (StX.tStar K te tr) G (es ++ ds) := .mk fun {H0 F0 F H σ} E Q q => h E _ fun v F1 H1 E1 f1 g1 n1 r1 => by
  cases r1 with
  | tup ha rs =>
    refine ⟨_, _, rfl, .inl (st_of (E1.ef _ _ ha)), hr E1 _ fun vs F2 H2 E2 f2 g2 n2 r2 => q _ F2 H2 E2 (f1.trans f2) (g1.trans g2) (n1.trans n2 g1) ((rs.mono f2).app r2)⟩
/-! new lists, each with what one of the store has -/
def updZ (M : Sto) : List (Addr × List D) → Sto
  | [] => M
  | p :: zs => fun b => if b = p.1 then some (.lst p.2) else updZ M zs b
theorem updZ_out {M : Sto} {b : Addr} : ∀ {zs : List (Addr × List D)}, b ∉ zs.map (fun p => p.1) → updZ M zs b = M b
  | [], _ => rfl
  | p :: zs, h => by
    rw [List.map_cons, List.mem_cons, not_or] at h
    unfold updZ
    rw [if_neg h.1]
    exact updZ_out h.2
theorem updZ_snoc {M : Sto} {a : Addr} {l : List D} : ∀ {zs : List (Addr × List D)}, a ∉ zs.map (fun p => p.1) → updZ M (zs ++ [(a, l)]) = updM (updZ M zs) a (.lst l)
  | [], _ => rfl
  | p :: zs, h => by
    rw [List.map_cons, List.mem_cons, not_or] at h
    funext b
    have ih := congrFun (updZ_snoc (M := M) (l := l) h.2) b
    show (if b = p.1 then some (.lst p.2) else updZ M (zs ++ [(a, l)]) b) = updM (fun b => if b = p.1 then some (.lst p.2) else updZ M zs b) a (.lst l) b
    by_cases q : b = a
    · subst q
      rw [updM_same, if_neg h.1, ih, updM_same]
    · rw [updM_ne q]
      by_cases y : b = p.1
      · rw [if_pos y, if_pos y]
      · rw [if_neg y, if_neg y, ih, updM_ne q]
theorem updZ_at {M : Sto} : ∀ {la : List Addr} {ls : List (List D)} {i : Nat}, la.Nodup → la.length = ls.length → i < la.length → updZ M (la.zip ls) (la.getD i 0) = some (.lst (ls.getD i []))
  | a :: la, l :: ls, 0, _, _, _ => if_pos rfl
  | a :: la, l :: ls, i + 1, hn, hl, hi => by
    rw [List.nodup_cons] at hn
    have hi' : i < la.length := Nat.lt_of_succ_lt_succ hi
    have hne : la.getD i 0 ≠ a := fun q => hn.1 (by
      rw [← q, List.getD_eq_getElem?_getD, List.getElem?_eq_getElem hi']
      exact List.getElem_mem hi')
    show (if la.getD i 0 = a then some (.lst l) else updZ M (la.zip ls) (la.getD i 0)) = some (.lst (ls.getD i []))
    rw [if_neg hne]
    exact updZ_at hn.2 (Nat.succ.inj hl) hi'
theorem zip_snoc2 {α β : Type} {x : α} : ∀ {xs : List α} {ls : List β} {n : Nat} {l : β}, ls[n]? = some l → xs.length = n → (xs ++ [x]).zip ls = xs.zip ls ++ [(x, l)]
  | [], [], n, l, h, _ => by simp at h
  | [], b :: ls, n, l, h, hl => by
    subst hl
    simp at h
    subst h
    show (x, b) :: [].zip ls = [(x, b)]
    rw [List.zip_nil_left]
  | a :: xs, [], n, l, h, _ => by simp at h
  | a :: xs, b :: ls, n, l, h, hl => by
    subst hl
    have h' : ls[xs.length]? = some l := by simpa using h
    show (a, b) :: (xs ++ [x]).zip ls = (a, b) :: (xs.zip ls ++ [(x, l)])
    rw [zip_snoc2 h' rfl]
theorem zip_fst_mem {α β : Type} {a : α} : ∀ {xs : List α} {ls : List β}, a ∈ (xs.zip ls).map (fun p => p.1) → a ∈ xs
  | [], _, h => by
    rw [List.zip_nil_left] at h
    cases h
  | x :: xs, [], h => by
    rw [List.zip_nil_right] at h
    cases h
  | x :: xs, l :: ls, h => by
    rw [List.zip_cons_cons, List.map_cons] at h
    rcases List.mem_cons.mp h with z | z
    · rw [z]
      exact List.mem_cons_self
    · exact List.mem_cons_of_mem _ (zip_fst_mem z)
theorem zip_take {α β : Type} : ∀ (xs : List α) (ls : List β), xs.zip (ls.take xs.length) = xs.zip ls
  | [], ls => by
    rw [List.zip_nil_left, List.zip_nil_left]
  | x :: xs, [] => by
    rw [List.take_nil]
  | x :: xs, l :: ls => by
    show (x, l) :: xs.zip (ls.take xs.length) = (x, l) :: xs.zip ls
    rw [zip_take xs ls]
/-- {k: list(v) for k, v in x.f.items()}: x a thing in the store, x.f a dict that stays, of lists in the store -/
theorem e_dcCopy {i j m : Nat} {x : Addr} {f : Str} {fs : List (Str × D)} {es : List (Key × D)} {la : List Addr} {ls : List (List D)} (hjm : j ≠ m) (hjG : j < G.length) (hmG : m < G.length) (hx : G[i]? = some (.dat (.ptr x))) (hm : M x = some (.ins C fs)) (hc : Cls K C) (hn : NoAttr K C f) (hf : fs.lookup f = some (.dic es)) (hu : (es.map fun p => p.1).Nodup) (hz : es.length ≤ 1000)
    (hla : (es.map fun p => p.2) = la.map D.ptr) (hll : ls.length = la.length) (hst : ∀ n, n < la.length → M (la.getD n 0) = some (.lst (ls.getD n [])))
    (hp : ∀ la2 : List Addr, la2.length = es.length → la2.Nodup → (∀ a ∈ la2, M a = none) → R (.ok (.dic ((es.map fun p => p.1).zip (la2.map D.ptr)))) (updZ M (la2.zip ls))) :
    EvM K (tLockE (tDc (iItems (tFld K (tVar i) f)) (gTup K 2 (gCons (gName j) (gCons (gName m) gNil))) tYes (tVar j) (tCB (rListOf K) (tCons (tVar m) tNil)) [j, m])) X M G R := ⟨fun {H0 F0 F H σ} E Q q qx => by
  obtain ⟨v, hv, rv⟩ := E.en.dat i _ hx
  cases rv
  obtain ⟨_, o, hH, hb⟩ := E.st x _ hm
  cases hb with
  | ins h4 h5 =>
    rename_i dx gs
    obtain ⟨w, hw1, hw2⟩ := get_rp h4 h5 hf
    cases hw2 with
    | dic hd hk hr =>
      rename_i d kvs
      have hHd := E.en.ef _ _ hd
      have hxd : x ≠ d := fun z => by
        subst z
        rw [hH] at hHd
        cases hHd
      have hlen : kvs.length = es.length := by
        have := congrArg List.length hk
        rwa [List.length_map, List.length_map] at this
      have hlen2 : la.length = es.length := by
        have := congrArg List.length hla
        rw [List.length_map, List.length_map] at this
        exact this.symm
      rw [hla] at hr
      refine ⟨d, _, hHd, trivial, fun od => ?_⟩
      unfold tDc iItems
      refine ⟨.ref x, ?_, x, C, dx, gs, .ref d, rfl, by rw [upd_ne hxd]; exact hH, hc, hn, hw1, d, od, kvs, rfl, upd_same, fun z hz1 => ?_⟩
      · first | exact hv | exact ⟨_, hv⟩
      have hdz : d ≠ z := fun y => by
        subst y
        rw [upd_same] at hz1
        cases hz1
      have hHz : H z = none := by
        rw [upd_ne hdz.symm] at hz1
        exact hz1
      have hFz := ex_none E.en.ef hHz
      have h0z := ex_none E.en.e0 hHz
      refine ⟨fun n m' H' => m' + n = kvs.length ∧ H' d = some (.frz od (.dK kvs)) ∧ (∀ a, H' a = none → H a = none) ∧ ∃ la2 : List Addr, ∃ acc : List (Key × V), la2.length = n ∧ la2.Nodup ∧ (∀ a ∈ la2, H a = none ∧ a ≠ z) ∧ acc = ((kvs.map fun p => p.1).zip (la2.map V.ref)) ∧ H' z = some (.dK acc) ∧ EnM K H0 F0 F (updZ M (la2.zip ls)) (upd H' d (.dK kvs)) σ G, ⟨kvs.length, rfl, by rw [upd_ne hdz]; exact upd_same, fun a h => ?_, [], [], rfl, List.nodup_nil, fun a h => (nomatch h), by rw [List.map_nil, List.zip_nil_right], upd_same, ?_⟩, ?_⟩
      · by_cases ha : a = z
        · rw [ha]
          exact hHz
        · rw [upd_ne ha] at h
          by_cases hb : a = d
          · rw [hb, upd_same] at h
            cases h
          · rw [upd_ne hb] at h
            exact h
      · rw [List.zip_nil_left, show updZ M [] = M from rfl, upd_swap (a := z) (b := d) hdz.symm, upd_upd, upd_id hHd]
        exact E.aside hFz h0z (E.free hHz) (E.freeO hHz)
      · rintro n m' H2 ⟨hmn, hd2, hback, la2, acc, hla2, hnd, hfr, hacc, hz2, E2⟩
        have hMl : ∀ a ∈ la2, M a = none := fun a ha => E.free (hfr a ha).1
        rcases Nat.eq_or_lt_of_le (show n ≤ kvs.length by omega) with hlt | hlt
        · refine .inl ⟨⟨hd2, by omega⟩, hd2, ?_⟩
          have hMz : updZ M (la2.zip ls) z = none := by
            rw [updZ_out (fun h => (hfr z (zip_fst_mem h)).2 rfl)]
            exact E.free hHz
          have hzz : upd H2 d (.dK kvs) z = some (.dK acc) := by
            rw [upd_ne hdz.symm]
            exact hz2
          have E3 := E2.addF (o := .dK acc) hFz hzz h0z hMz (E.freeO hHz)
          have hl1 : (kvs.map fun p => p.1).length = (la2.map V.ref).length := by rw [List.length_map, List.length_map]; omega
          have hl2 : (es.map fun p => p.1).length = (la2.map D.ptr).length := by rw [List.length_map, List.length_map]; omega
          refine q _ _ (hp la2 (by omega) hnd hMl) (.ref z) _ _ E3 (Ex.new hFz) (.dic upd_same ?_ ?_)
          · rw [hacc, List.map_fst_zip (by omega), List.map_fst_zip (by omega), hk]
          · rw [hacc, List.map_snd_zip (by omega), List.map_snd_zip (by omega)]
            have : ∀ l : List Addr, RpA K (upd F z (.dK acc)) (l.map V.ref) (l.map D.ptr) := fun l => by
              induction l with
              | nil => exact .nil
              | cons a l ih => exact .cons (.ptr a) ih
            rw [← hacc]
            exact this la2
        · refine .inr ⟨⟨hd2, hlt⟩, fun H' => H' d = some (.frz od (.dK kvs)) ∧ (∀ a, H' a = none → H a = none) ∧ ∃ la2 : List Addr, ∃ acc : List (Key × V), la2.length = n + 1 ∧ la2.Nodup ∧ (∀ a ∈ la2, H a = none ∧ a ≠ z) ∧ acc = ((kvs.map fun p => p.1).zip (la2.map V.ref)) ∧ H' z = some (.dK acc) ∧ EnM K H0 F0 F (updZ M (la2.zip ls)) (upd H' d (.dK kvs)) σ G, fun H' p' => ⟨m' - 1, by omega, by omega, p'⟩, fun y H3 hy => ?_⟩
          obtain ⟨T, k, vv, hk1, rfl, hT, rfl⟩ := hy
          have hTd : T ≠ d := fun y => by
            subst y
            rw [hd2] at hT
            cases hT
          have hTz : T ≠ z := fun y => by
            subst y
            rw [hz2] at hT
            cases hT
          have hjl : j < σ.length := by
            rw [E.en.len]
            exact hjG
          have hml : m < σ.length := by
            rw [E.en.len]
            exact hmG
          -- the list that is copied
          have hnla : n < la.length := by omega
          obtain ⟨vv', r1, r2⟩ := hr.get (List.getElem?_eq_getElem (l := la.map D.ptr) (i := n) (by rw [List.length_map]; exact hnla))
          rw [List.getElem?_map, hk1] at r1
          cases r1
          rw [List.getElem_map] at r2
          have hvv : vv = .ref (la.getD n 0) := by
            rw [List.getD_eq_getElem?_getD, List.getElem?_eq_getElem hnla]
            cases r2
            rfl
          have hMa := hst n hnla
          have hna2 : la.getD n 0 ∉ (la2.zip ls).map (fun p => p.1) := fun y => by
            rw [hMl _ (zip_fst_mem y)] at hMa
            cases hMa
          obtain ⟨_, oa, hoa, boa⟩ := E2.st (la.getD n 0) _ (by rw [updZ_out hna2]; exact hMa)
          cases boa with
          | lst rys =>
            rename_i ys
            have had : la.getD n 0 ≠ d := fun y => by
              rw [y, upd_same] at hoa
              cases hoa
            rw [upd_ne had] at hoa
            have haT : la.getD n 0 ≠ T := fun y => by
              rw [y, hT] at hoa
              cases hoa
            refine ⟨T, [kV k, vv], rfl, Or.inl (Or.inl upd_same), rfl, kV k, [vv], rfl, vv, [], rfl, rfl, ?_⟩
            refine ⟨?_, ?_⟩
            · rw [wipe_set_in (by simp), wipe_set_in (by simp)]
              exact wipe_twice fun u hu => hu
            unfold tYes
            dsimp only
            rw [if_pos rfl]
            refine ⟨kV k, by rw [List.getElem?_set_ne (Ne.symm hjm)]; exact List.getElem?_set_self (by rw [wipe_length]; exact hjl), vv, List.getElem?_set_self (by rw [List.length_set, wipe_length]; exact hml), la.getD n 0, ys, by rw [hvv], .inl (sq_of (by rw [upd_ne haT]; exact hoa)), fun p hpn => ?_⟩
            have hpT : p ≠ T := fun y => by
              subst y
              rw [upd_same] at hpn
              cases hpn
            rw [upd_ne hpT] at hpn
            have hpd : p ≠ d := fun y => by
              subst y
              rw [hd2] at hpn
              cases hpn
            have hpz : p ≠ z := fun y => by
              subst y
              rw [hz2] at hpn
              cases hpn
            have hlacc : acc.length = n := by
              rw [hacc, List.length_zip, List.length_map, List.length_map]
              omega
            have hTu : upd H2 d (.dK kvs) T = none := by
              rw [upd_ne hTd]
              exact hT
            have E2T := E2.aside (o := .tup [kV k, vv]) (z := T) (ex_none E2.en.ef hTu) (ex_none E2.en.e0 hTu) (E2.free hTu) (E2.freeO hTu)
            have hHu : upd (upd H2 d (.dK kvs)) T (.tup [kV k, vv]) p = none := by
              rw [upd_ne hpT, upd_ne hpd]
              exact hpn
            have hFp := ex_none E2T.en.ef hHu
            have h0p := ex_none E2T.en.e0 hHu
            have hMp : updZ M (la2.zip ls) p = none := E2T.free hHu
            have hHp : H p = none := hback p hpn
            have hpla : p ∉ la2 := fun y => by
              have hi := List.getElem_of_mem y
              obtain ⟨r, hr1, hr2⟩ := hi
              have hat := updZ_at (M := M) (la := la2) (ls := ls.take la2.length) hnd (by rw [List.length_take]; omega) hr1
              have hzip : la2.zip (ls.take la2.length) = la2.zip ls := zip_take la2 ls
              rw [hzip, List.getD_eq_getElem?_getD, List.getElem?_eq_getElem hr1] at hat
              have hat2 : updZ M (la2.zip ls) (la2[r]'hr1) = some (.lst ((ls.take la2.length).getD r [])) := hat
              rw [hr2, hMp] at hat2
              cases hat2
            have hnew : (acc.any fun kv => decide (kv.1 = k)) = false := by
              rw [← Bool.not_eq_true]
              intro hany
              obtain ⟨e1, he1, he2⟩ := List.any_eq_true.mp hany
              have he3 := of_decide_eq_true he2
              rw [hacc] at he1
              have hu' : (kvs.map fun p => p.1).Nodup := by
                rw [hk]
                exact hu
              obtain ⟨r, hr1, hr2⟩ := List.getElem_of_mem he1
              rw [List.getElem_zip] at hr2
              rw [List.length_zip, List.length_map, List.length_map] at hr1
              have hr3 : (kvs.map fun p => p.1)[r]'(by rw [List.length_map]; omega) = k := by
                rw [← he3, ← hr2]
              have hn3 : (kvs.map fun p => p.1)[n]'(by rw [List.length_map]; omega) = k := by
                rw [List.getElem_map]
                have := List.getElem?_eq_some_iff.mp hk1
                obtain ⟨h1, h2⟩ := this
                rw [h2]
              exact List.pairwise_iff_getElem.mp hu' r n (by rw [List.length_map]; omega) (by rw [List.length_map]; omega) (by omega) (hr3.trans hn3.symm)
            refine ⟨acc, k, rfl, by rw [upd_ne hpz.symm, upd_ne hTz.symm]; exact hz2, sz_lt (by omega), ?_, fun a h => ?_, la2 ++ [p], putK acc k (.ref p), by rw [List.length_append, hla2]; rfl, ?_, ?_, ?_, upd_same, ?_⟩
            · rw [upd_ne hdz, upd_ne hpd.symm, upd_ne hTd.symm]
              exact hd2
            · by_cases ha : a = z
              · rw [ha]
                exact hHz
              · rw [upd_ne ha] at h
                by_cases hb : a = p
                · rw [hb]
                  exact hHp
                · rw [upd_ne hb] at h
                  by_cases hcT : a = T
                  · rw [hcT]
                    exact hback T hT
                  · rw [upd_ne hcT] at h
                    exact hback a h
            · exact List.nodup_append.mpr ⟨hnd, List.nodup_cons.mpr ⟨fun h => (nomatch h), List.nodup_nil⟩, fun a ha b hb => by
                rw [List.mem_singleton] at hb
                subst hb
                exact fun y => hpla (y ▸ ha)⟩
            · intro a ha
              rcases List.mem_append.mp ha with y | y
              · exact hfr a y
              · rw [List.mem_singleton.mp y]
                exact ⟨hHp, hpz⟩
            · unfold putK
              rw [hnew, List.map_append, hacc]
              refine (zip_snoc ?_ (by rw [List.length_map, hla2])).symm
              rw [List.getElem?_map, hk1]
              rfl
            · have hlsn : ls[n]? = some (ls.getD n []) := by
                rw [List.getD_eq_getElem?_getD, List.getElem?_eq_getElem (by omega)]
                rfl
              rw [zip_snoc2 hlsn hla2, updZ_snoc (fun y => hpla (zip_fst_mem y)), upd_swap (a := z) (b := d) hdz.symm, upd_swap (a := p) (b := d) hpd, upd_swap (a := T) (b := d) hTd]
              have E3 := E2T.grow (Ex.refl F) (Ex.new (o := .lst ys) hHu) (E2T.en.ef.trans (Ex.new hHu)) (Nw.refl F _)
              have E4 := E3.new (n := .lst (ls.getD n [])) upd_same hFp h0p (fun j w hj hs => E2T.freeO hHu j w hj hs) (.lst rys)
              refine E4.aside hFz h0z ?_ (fun j w hj hs => E.freeO hHz j w hj hs)
              rw [updM_ne hpz.symm, updZ_out (fun h => (hfr z (zip_fst_mem h)).2 rfl)]
              exact E.free hHz⟩
end
end Cy

set_option Elab.async false
set_option linter.all false
set_option maxRecDepth 100000
set_option maxHeartbeats 4000000
namespace Cy
open PySem PySem.Spec PyProof.Rows L2 Evl
section
variable {K : PySem.W.Frag} {M M1 M2 : Sto} {G G' G1 : List Sl} {te td ty tv tb to tx : TE} {ta tr : TA} {t u : TT} {tu tw tz : TS} {d a b c : D} {ds l : List D} {X : XK} {P P1 : Out → Sto → Prop} {R R1 : Res → Sto → Prop} {o : Out} {g : TG} {C : Addr} {es : List (Key × D)}
/-- dict(d) -/
def rDictD (K : PySem.W.Frag) : List V → Hp → VK → Prop := fun xs H Q => ∃ (a : Addr) (kvs : List (Key × V)), xs = [.ref a] ∧ Rd H a (.dK kvs) ∧ ∀ p, H p = none → Q (.ref p) (upd H p (.dK kvs))
theorem call_gDictD {X : Cx} : CallR X (.type "dict") (rDictD X.K) := call_dictD
theorem e_mdictD {p : Addr} (h : EvR K te M G (.ptr p)) (hm : M p = some (.dic es)) (hp : ∀ q, M q = none → R (.ok (.ptr q)) (updM M q (.dic es))) : EvM K (tCB (rDictD K) (tCons te tNil)) X M G R := ⟨fun {H0 F0 F H σ} E Q q qx =>
  h.run E _ fun v F1 H1 E1 f1 r1 => by
    cases r1
    obtain ⟨_, o, ha, hb⟩ := E1.st p _ hm
    cases hb with
    | dic hn hr =>
      rename_i kvs
      refine ⟨p, kvs, rfl, .inl ha, fun z hz => ?_⟩
      have hF : F1 z = none := ex_none E1.en.ef hz
      have E2 := E1.grow (Ex.refl F1) (Ex.new (o := .dK kvs) hz) (E1.en.ef.trans (Ex.new hz)) (Nw.refl F1 H1)
      exact q _ _ (hp z (E1.free hz)) (.ref z) F1 _ (E2.new upd_same hF (ex_none E1.en.e0 hz) (fun i w hi hs => E1.freeO hz i w hi hs) (.dic hn hr)) f1 (.ptr z)⟩
/-- sorted(d), texts -/
def rSortedD (K : PySem.W.Frag) : List V → Hp → VK → Prop := fun xs H Q => ∃ (a : Addr) (kvs : List (Key × V)) (ks : List Str), xs = [.ref a] ∧ Rd H a (.dK kvs) ∧ kvs.map (·.1) = ks.map Sum.inr ∧ ks.length < 64 ∧
    ∀ ys p, ys.Perm ks → sortedS ys = true → H p = none → Q (.ref p) (upd H p (.lst (ys.map V.str)))
theorem call_gSortedD {X : Cx} (hc : X.calm = true) : CallR X (.builtin "sorted") (rSortedD X.K) := call_sortedD hc
/-- dict(xs) of pairs, no key twice -/
def rDictP (K : PySem.W.Frag) : List V → Hp → VK → Prop := fun xs H Q => ∃ (a : Addr) (ps : List Addr) (kvs : List (Key × V)), xs = [.ref a] ∧ SqL K H a (ps.map V.ref) ∧ Paired (fun p kv => SqT K H p [kV kv.1, kv.2]) ps kvs ∧
    ∀ p, H p = none → Q (.ref p) (upd H p (.dK (mergeK [] kvs)))
theorem call_gDictP {X : Cx} (hc : X.calm = true) : CallR X (.type "dict") (rDictP X.K) := call_dictP hc
end
end Cy

set_option Elab.async false
set_option linter.all false
set_option maxRecDepth 100000
set_option maxHeartbeats 4000000
namespace Cy
open PySem PySem.Spec PyProof.Rows L2 Evl
/-! texts in their order -/
def leS (a b : Str) : Prop := a.cps.toList ≤ b.cps.toList
theorem ltc {a b : Str} (h : ltCps b.cps.toList a.cps.toList = false) : leS a b := by
  rw [ltCps_eq] at h
  exact of_decide_eq_false h
theorem ltc' {a b : Str} (h : leS a b) : ltCps b.cps.toList a.cps.toList = false := by
  rw [ltCps_eq]
  exact decide_eq_false h
theorem rising_pw : ∀ (p : Str) (l : List Str), risingS p l = true → (p :: l).Pairwise leS
  | p, [], _ => List.pairwise_singleton _ _
  | p, x :: r, h => by
    have h' : (!ltCps x.cps.toList p.cps.toList && risingS x r) = true := h
    rw [Bool.and_eq_true, Bool.not_eq_true'] at h'
    have ih := rising_pw x r h'.2
    have hpx : leS p x := ltc h'.1
    refine List.pairwise_cons.mpr ⟨fun y hy => ?_, ih⟩
    rcases List.mem_cons.mp hy with z | z
    · rw [z]
      exact hpx
    · exact List.le_trans hpx ((List.pairwise_cons.mp ih).1 y z)
theorem sorted_pw : ∀ (l : List Str), sortedS l = true → l.Pairwise leS
  | [], _ => List.Pairwise.nil
  | x :: r, h => rising_pw x r h
theorem str_ext {a b : Str} (h : a.cps.toList = b.cps.toList) : a = b := by
  cases a with
  | mk x =>
    cases b with
    | mk y =>
      have : x = y := Array.toList_inj.mp h
      rw [this]
theorem sorted_one {l m : List Str} (hl : sortedS l = true) (hm : sortedS m = true) (p : l.Perm m) : l = m :=
  List.Perm.eq_of_pairwise (le := leS) (fun a b _ _ h1 h2 => str_ext (List.le_antisymm h1 h2)) (sorted_pw l hl) (sorted_pw m hm) p
def srtS (l : List Str) : List Str := l.mergeSort fun a b => !ltCps b.cps.toList a.cps.toList
theorem srt_perm (l : List Str) : (srtS l).Perm l := List.mergeSort_perm l _
theorem srt_ok (l : List Str) : sortedS (srtS l) = true := by
  refine sortedS_of_pairwise _ ?_
  have := List.pairwise_mergeSort (le := fun a b : Str => !ltCps b.cps.toList a.cps.toList) (fun a b c h1 h2 => ?_) (fun a b => ?_) l
  · exact this.imp fun h => by simpa using h
  · rw [Bool.not_eq_true'] at h1 h2 ⊢
    exact ltc' (List.le_trans (ltc h1) (ltc h2))
  · rw [Bool.or_eq_true, Bool.not_eq_true', Bool.not_eq_true']
    rcases List.le_total a.cps.toList b.cps.toList with h | h
    · exact .inl (ltc' h)
    · exact .inr (ltc' h)
section
variable {K : PySem.W.Frag} {es : List (Key × D)}
theorem n_sortedD {ks : List Str} (hk : es.map (fun p => p.1) = ks.map Sum.inr) (hz : ks.length < 64) : OpNO K (rSortedD K) [.dic es] ((srtS ks).map D.str) := .mk fun {F H vs} e r Q q => by
  obtain ⟨v, rfl, r1⟩ := rpa1 r
  cases r1 with
  | dic ha hn hr =>
    refine ⟨_, _, ks, rfl, .inl (e _ _ ha), hn.trans hk, hz, fun ys p hp hs hn' => ?_⟩
    rw [sorted_one hs (srt_ok ks) (hp.trans (srt_perm ks).symm)]
    refine q p _ _ (Ex.new hn') hn' upd_same ?_
    have : ∀ l : List Str, RpA K F (l.map V.str) (l.map D.str) := fun l => by
      induction l with
      | nil => exact .nil
      | cons a l ih => exact .cons (.str a) ih
    exact this _
theorem n_sortedL {ks : List Str} (hz : ks.length < 64) : OpNO K (rSortedS K) [.lst (ks.map D.str)] ((srtS ks).map D.str) := .mk fun {F H vs} e r Q q => by
  obtain ⟨v, rfl, r1⟩ := rpa1 r
  cases r1 with
  | lst ha rs =>
    refine ⟨_, ks, rfl, sq_of (by rw [e _ _ ha, rs.strs]), hz, fun ys p hp hs hn' => ?_⟩
    rw [sorted_one hs (srt_ok ks) (hp.trans (srt_perm ks).symm)]
    refine q p _ _ (Ex.new hn') hn' upd_same ?_
    have : ∀ l : List Str, RpA K F (l.map V.str) (l.map D.str) := fun l => by
      induction l with
      | nil => exact .nil
      | cons a l ih => exact .cons (.str a) ih
    exact this _
end
end Cy

set_option Elab.async false
set_option linter.all false
set_option maxRecDepth 100000
set_option maxHeartbeats 4000000
namespace Cy
open PySem PySem.Spec PyProof.Rows L2 Evl
section
variable {K : PySem.W.Frag} {M M1 M2 : Sto} {G G' G1 : List Sl} {te td ty tv tb to tx : TE} {ta tr : TA} {t u : TT} {tu tw tz : TS} {d a b c : D} {ds l : List D} {X : XK} {P P1 : Out → Sto → Prop} {R R1 : Res → Sto → Prop} {o : Out} {g : TG} {C : Addr} {es : List (Key × D)}
theorem putK_new {kvs : List (Key × V)} {k : Key} {v : V} (h : k ∉ kvs.map fun p => p.1) : putK kvs k v = kvs ++ [(k, v)] := by
  have hn : (kvs.any fun kv => decide (kv.1 = k)) = false := by
    rw [← Bool.not_eq_true]
    intro ha
    obtain ⟨kv, h1, h2⟩ := List.any_eq_true.mp ha
    exact h (List.mem_map.mpr ⟨kv, h1, of_decide_eq_true h2⟩)
  unfold putK
  rw [hn]
  rfl
theorem mergeK_nodup : ∀ {more acc : List (Key × V)}, ((acc ++ more).map fun p => p.1).Nodup → mergeK acc more = acc ++ more
  | [], acc, _ => by
    rw [List.append_nil]
    rfl
  | p :: more, acc, h => by
    have h1 : p.1 ∉ acc.map fun p => p.1 := fun q => by
      rw [List.map_append, List.map_cons] at h
      exact (List.nodup_append.mp h).2.2 p.1 q p.1 List.mem_cons_self rfl
    show mergeK (putK acc p.1 p.2) more = _
    rw [putK_new h1]
    have : (acc ++ [(p.1, p.2)]) ++ more = acc ++ p :: more := by simp
    rw [mergeK_nodup (by rw [this]; exact h), this]
/-- dict(xs) of pairs, no key twice -/
theorem n_dictP (hu : (es.map fun p => p.1).Nodup) : OpN K (rDictP K) [.lst (es.map itemD)] (.dic es) := .mk fun {F H vs} e r Q q => by
  obtain ⟨v, rfl, r1⟩ := rpa1 r
  cases r1 with
  | lst ha rs =>
    rename_i a xs
    have go : ∀ {es : List (Key × D)} {xs : List V}, RpA K F xs (es.map itemD) → ∃ (ps : List Addr) (kvs : List (Key × V)), xs = ps.map V.ref ∧ Paired (fun p kv => SqT K H p [kV kv.1, kv.2]) ps kvs ∧ kvs.map (fun p => p.1) = es.map (fun p => p.1) ∧ RpA K F (kvs.map fun p => p.2) (es.map fun p => p.2) := by
      intro es
      induction es with
      | nil =>
        intro xs r
        cases r
        exact ⟨[], [], rfl, .nil, rfl, .nil⟩
      | cons p es ih =>
        intro xs r
        rw [List.map_cons] at r
        cases r with
        | cons r1 r2 =>
          obtain ⟨ps, kvs, h1, h2, h3, h4⟩ := ih r2
          cases r1 with
          | tup hb rb =>
            rename_i ad ys
            obtain ⟨v1, v2, rfl, k1, k2⟩ := rpa2 rb
            have hv := key_rp k1
            subst hv
            exact ⟨ad :: ps, (p.1, v2) :: kvs, by rw [h1]; rfl, .cons (st_of (e _ _ hb)) h2, by rw [List.map_cons, List.map_cons, h3], .cons k2 h4⟩
    obtain ⟨ps, kvs, h1, h2, h3, h4⟩ := go rs
    have hm : mergeK [] kvs = kvs := mergeK_nodup (acc := []) (by rw [List.nil_append, h3]; exact hu)
    refine ⟨a, ps, kvs, rfl, sq_of (by rw [e _ _ ha, h1]), h2, fun p hp => ?_⟩
    rw [hm]
    have hF : F p = none := ex_none e hp
    have ef : Ex F (upd F p (.dK kvs)) := Ex.new hF
    exact q (.ref p) _ _ ef (ex_upd_both e) (Ex.new hp) (nw_upd hp (Nw.refl F H)) (.dic upd_same h3 (h4.mono ef))
/-- a tuple whose parts change the store -/
theorem e_mtup {R2 : List D → Sto → Prop} (h : EvSM K ta M G R2) (hl : ∀ ds M', R2 ds M' → ds.length ≤ 100000) (hp : ∀ ds M', R2 ds M' → R (.ok (.tup ds)) M') : EvM K (tTup ta) X M G R := ⟨fun {H0 F0 F H σ} E Q q qx =>
  h.run E _ fun ds M' k vs F1 H1 E1 f1 r1 => ⟨sz_of (by rw [r1.length]; exact hl ds M' k), fun p hpn => by
    have hF : F1 p = none := ex_none E1.en.ef hpn
    have ef : Ex F1 (upd F1 p (.tup vs)) := Ex.new hF
    exact q _ M' (hp ds M' k) (.ref p) (upd F1 p (.tup vs)) _ (E1.grow ef (Ex.new hpn) (ex_upd_both E1.en.ef) (nw_upd hpn (Nw.refl F1 H1))) (f1.trans ef) (.tup upd_same (r1.mono ef))⟩⟩
theorem updL_snoc' {M : Sto} {la : List Addr} {a : Addr} {n : Nd} : updL M (la ++ [a]) n = updM (updL M la n) a n := updL_snoc
/-- [(key, []) for x in xs]: new lists -/
theorem e_lcNewP {wi : TI} {items : List D} {j : Nat} {tk : TE} (kf : D → Key) (hi : ItD K wi G items) (hz : items.length ≤ 40000) (hk : ∀ dx ∈ items, EvD K tk (G.set j (.dat dx)) (keyD (kf dx)))
    (hp : ∀ la : List Addr, la.length = items.length → la.Nodup → (∀ a ∈ la, M a = none) → R (.ok (.lst (((items.map kf).zip (la.map D.ptr)).map itemD))) (updL M la (.lst []))) :
    EvM K (tLc wi (gName j) tYes (tTup (tCons tk (tCons (tLst tNil) tNil))) [j]) X M G R := ⟨fun {H0 F0 F H σ} E Q q qx => by
  refine hi E.en _ fun Jt F1 H1 E1 f1 g1 n1 wk => ?_
  obtain ⟨Gp, Y, w, hg, hy⟩ := wk.ex
  have En1 := E.withG E1 f1 g1 n1
  intro Dl hD
  refine lc_it w (fun i H' => ∃ F' la acc, EnM K H0 F0 F' (updL M la (.lst [])) H' σ G ∧ Ex F1 F' ∧ F' Dl = none ∧ Dl ∉ la ∧ H' Dl = some (.lst acc) ∧ RpA K F' acc ((((items.take i).map kf).zip (la.map D.ptr)).map itemD) ∧ la.length = i ∧ la.Nodup ∧ (∀ a ∈ la, M a = none)) ?_ (fun i H' _ ⟨F', la, acc, E', e', _⟩ => hg H' (e'.trans E'.en.ef)) ?_ ?_
  · refine ⟨F1, [], [], ?_, Ex.refl _, ex_none E1.ef hD, fun h => (nomatch h), upd_same, ?_, rfl, List.nodup_nil, fun a h => (nomatch h)⟩
    · rw [updL_nil]
      exact En1.aside (ex_none E1.ef hD) (ex_none E1.e0 hD) (En1.free hD) (En1.freeO hD)
    · rw [List.map_nil, List.zip_nil_right]
      exact .nil
  · rintro i x H2 H3 hlt ⟨F', la, acc, E', e', hF, hDla, hH, hr, hlen, hnd, hfr⟩ y
    obtain ⟨F2, d, k1, k2, k3, k4, hd2, r2⟩ := hy i H2 x H3 F' e' E'.en.ef y
    have E3 := E'.grow k1 k2 k3 k4
    refine keeps1 x σ H3 _ ?_
    have eσ : (L2.wipe σ [j]).set j (some x) = σ.set j (some x) := by
      show ((σ.set j none).set j (some x)) = _
      rw [List.set_set]
    unfold gName
    rw [eσ]
    unfold tYes
    dsimp only
    rw [if_pos rfl]
    have hdm : d ∈ items := by
      obtain ⟨h1, h2⟩ := List.getElem?_eq_some_iff.mp hd2
      exact h2 ▸ List.getElem_mem h1
    have hH3 : H3 Dl = some (.lst acc) := k2 _ _ hH
    have hF2 : F2 Dl = none := by
      cases z : F2 Dl with
      | none => rfl
      | some o =>
        rcases k4 Dl o z with y | y
        · rw [hF] at y
          cases y
        · rw [hH] at y
          cases y
    refine hk d hdm (E3.en.setD r2 j) _ fun v F4 H4 E4 f4 g4 n4 r4 => ?_
    have hv := key_rp r4
    subst hv
    have hF4 : F4 Dl = none := by
      cases z : F4 Dl with
      | none => rfl
      | some o =>
        rcases n4 Dl o z with y | y
        · rw [hF2] at y
          cases y
        · rw [hH3] at y
          cases y
    have E5 := E3.grow f4 g4 E4.ef n4
    refine ⟨sz_of (Nat.zero_le _), fun p hpn => ⟨sz_of (by show 2 ≤ 100000; decide), fun T hT => ?_⟩⟩
    have hH4 : H4 Dl = some (.lst acc) := g4 _ _ hH3
    have hpD : p ≠ Dl := fun y => by
      rw [y, hH4] at hpn
      cases hpn
    have hTp : T ≠ p := fun y => by
      rw [y, upd_same] at hT
      cases hT
    rw [upd_ne hTp] at hT
    have hTD : T ≠ Dl := fun y => by
      rw [y, hH4] at hT
      cases hT
    have hFp := ex_none E5.en.ef hpn
    have h0p := ex_none E5.en.e0 hpn
    have hMp : updL M la (.lst []) p = none := E5.free hpn
    have hpla : p ∉ la := fun y => by
      rw [updL_in y] at hMp
      cases hMp
    have hMp0 : M p = none := by
      rw [updL_out hpla] at hMp
      exact hMp
    have E6 := (E5.grow (Ex.refl F4) (Ex.new (o := .lst []) hpn) (E5.en.ef.trans (Ex.new hpn)) (Nw.refl F4 H4)).new (n := .lst []) upd_same hFp h0p (fun i w hj hs => E5.freeO hpn i w hj hs) (.lst .nil)
    have hTu : upd H4 p (.lst []) T = none := by
      rw [upd_ne hTp]
      exact hT
    have hFT := ex_none E6.en.ef hTu
    have eT : Ex F4 (upd F4 T (.tup [kV (kf d), .ref p])) := Ex.new hFT
    have E7 := E6.grow eT (Ex.new hTu) (ex_upd_both E6.en.ef) (nw_upd hTu (Nw.refl F4 _))
    have hlacc : acc.length = i := by
      rw [hr.length, List.length_map, List.length_zip, List.length_map, List.length_take, List.length_map]
      omega
    refine ⟨acc, by rw [upd_ne hTD.symm, upd_ne hpD.symm]; exact hH4, sz_lt (by omega), upd F4 T (.tup [kV (kf d), .ref p]), la ++ [p], acc ++ [.ref T], ?_, ((e'.trans k1).trans f4).trans eT, by rw [upd_ne hTD.symm]; exact hF4, fun y => ?_, upd_same, ?_, by rw [List.length_append, hlen]; rfl, ?_, fun a ha => ?_⟩
    · rw [updL_snoc']
      refine E7.aside (by rw [upd_ne hTD.symm]; exact hF4) (ex_none E1.e0 hD) ?_ (fun i w hj hs => En1.freeO hD i w hj hs)
      rw [updM_ne hpD.symm, updL_out hDla]
      exact En1.free hD
    · rcases List.mem_append.mp y with y | y
      · exact hDla y
      · exact hpD (List.mem_singleton.mp y).symm
    · have et : (items.take (i + 1)).map kf = (items.take i).map kf ++ [kf d] := by
        have : items.take (i + 1) = items.take i ++ [d] := by
          rw [List.take_succ, hd2]
          rfl
        rw [this, List.map_append]
        rfl
      have ez : ((items.take i).map kf ++ [kf d]).zip ((la ++ [p]).map D.ptr) = ((items.take i).map kf).zip (la.map D.ptr) ++ [(kf d, D.ptr p)] := by
        rw [List.map_append]
        exact List.zip_append (by rw [List.length_map, List.length_map, List.length_take]; omega)
      rw [et, ez, List.map_append]
      exact (((hr.mono k1).mono f4).mono eT).app (.cons (.tup upd_same (.cons (rp_key _) (.cons (.ptr p) .nil))) .nil)
    · exact List.nodup_append.mpr ⟨hnd, List.nodup_cons.mpr ⟨(fun h => nomatch h), List.nodup_nil⟩, fun a ha b hb => by
        rw [List.mem_singleton] at hb
        subst hb
        exact fun y => hpla (y ▸ ha)⟩
    · rcases List.mem_append.mp ha with y | y
      · exact hfr a y
      · rw [List.mem_singleton.mp y]
        exact hMp0
  · rintro H2 ⟨F', la, acc, E', e', hF, hDla, hH, hr, hlen, hnd, hfr⟩
    rw [List.take_length] at hr
    have eD : Ex F' (upd F' Dl (.lst acc)) := Ex.new hF
    refine q _ _ (hp la hlen hnd hfr) (.ref Dl) _ H2 (E'.addF hF hH (ex_none E1.e0 hD) ?_ (fun i w hj hs => En1.freeO hD i w hj hs)) (f1.trans (e'.trans eD)) (.lst upd_same (hr.mono eD))
    rw [updL_out hDla]
    exact En1.free hD⟩
end
end Cy

set_option Elab.async false
set_option linter.all false
set_option maxRecDepth 100000
set_option maxHeartbeats 4000000
namespace Cy
open PySem PySem.Spec PyProof.Rows L2 Evl
theorem valE_mem {k : Key} {d : D} : ∀ {es : List (Key × D)}, valE es k = some d → d ∈ es.map fun p => p.2
  | p :: es, h => by
    by_cases e : p.1 = k
    · rw [valE_pos e] at h
      cases h
      exact List.mem_cons_self
    · rw [valE_neg e] at h
      exact List.mem_cons_of_mem _ (valE_mem h)
theorem walk_iti {d : Addr} {od : Obj} {kvs : List (Key × V)} : Walk (Iti d od kvs) kvs.length (fun H => H d = some (.frz od (.dK kvs))) (fun i H x H' => ∃ T k v, kvs[i]? = some (k, v) ∧ x = .ref T ∧ H T = none ∧ H' = upd H T (.tup [kV k, v])) :=
  ⟨fun i H hi g => ⟨g, hi⟩, fun H g => ⟨g, Nat.le_refl _⟩, fun i H x H' hi g y => y⟩
section
variable {K : PySem.W.Frag} {M M1 M2 : Sto} {G G' G1 : List Sl} {te td ty tv tb to tx : TE} {ta tr : TA} {t u : TT} {tu tw tz : TS} {d a b c : D} {ds l : List D} {X : XK} {P P1 : Out → Sto → Prop} {R R1 : Res → Sto → Prop} {o : Out} {g : TG} {C : Addr} {es : List (Key × D)}
/-- [(k, list(v)) for k, v in own[k0].items()]: copies of lists in the store -/
theorem e_lcCopyP {i j m : Nat} {k0 : Str} {ds : List (Key × D)} {la : List Addr} {ls : List (List D)} (hjm : j ≠ m) (hjG : j < G.length) (hmG : m < G.length) (hx : G[i]? = some (.dat (.dic ds))) (hk0 : valE ds (.inr k0) = some (.dic es)) (hz : es.length ≤ 1000)
    (hla : (es.map fun p => p.2) = la.map D.ptr) (hll : ls.length = la.length) (hst : ∀ n, n < la.length → M (la.getD n 0) = some (.lst (ls.getD n [])))
    (hp : ∀ la2 : List Addr, la2.length = es.length → la2.Nodup → (∀ a ∈ la2, M a = none) → R (.ok (.lst (((es.map fun p => p.1).zip (la2.map D.ptr)).map itemD))) (updZ M (la2.zip ls))) :
    EvM K (tLockE (tLc (iItems (tDGet (tVar i) (tC (.str k0)))) (gTup K 2 (gCons (gName j) (gCons (gName m) gNil))) tYes (tTup (tCons (tVar j) (tCons (tCB (rListOf K) (tCons (tVar m) tNil)) tNil))) [j, m])) X M G R := ⟨fun {H0 F0 F H σ} E Q q qx => by
  obtain ⟨v, hv, rv⟩ := E.en.dat i _ hx
  cases rv with
  | dic ho hno hro =>
    rename_i ow kvo
    obtain ⟨v', hv1, rv'⟩ := (valE_rp hno hro).1 _ hk0
    cases rv' with
    | dic hd hk hr =>
      rename_i d kvs
      have hHd := E.en.ef _ _ hd
      have hlen : kvs.length = es.length := by
        have := congrArg List.length hk
        rwa [List.length_map, List.length_map] at this
      have hlen2 : la.length = es.length := by
        have := congrArg List.length hla
        rw [List.length_map, List.length_map] at this
        exact this.symm
      have hod : ow ≠ d := fun y => by
        subst y
        rw [ho] at hd
        cases hd
        cases q1 : valE es (.inr k0) with
        | none =>
          have := (valE_rp hk hr).2 q1
          rw [hv1] at this
          cases this
        | some d' =>
          obtain ⟨v2, w1, w2⟩ := (valE_rp hk hr).1 _ q1
          rw [hv1] at w1
          cases w1
          have hm := valE_mem q1
          rw [hla] at hm
          obtain ⟨a, ha, rfl⟩ := List.mem_map.mp hm
          cases w2
          obtain ⟨n, hn1, hn2⟩ := List.getElem_of_mem ha
          have hMa := hst n hn1
          rw [List.getD_eq_getElem?_getD, List.getElem?_eq_getElem hn1] at hMa
          have hMa2 : M ow = some (.lst (ls.getD n [])) := by
            rw [← hn2]
            exact hMa
          have := (E.st ow _ hMa2).1
          rw [ho] at this
          cases this
      rw [hla] at hr
      refine ⟨d, _, hHd, trivial, fun od => ?_⟩
      unfold tLc iItems
      have hget : DGet (upd H d (.frz od (.dK kvs))) ow (kV (.inr k0)) (valV kvo (.inr k0)) := DGet.k (by rw [upd_ne hod]; exact E.en.ef _ _ ho)
      rw [hv1] at hget
      refine ⟨.ref ow, hv, ow, .ref d, rfl, hget, d, od, kvs, rfl, upd_same, fun z hz1 => ?_⟩
      have hdz : d ≠ z := fun y => by
        subst y
        rw [upd_same] at hz1
        cases hz1
      have hHz : H z = none := by
        rw [upd_ne hdz.symm] at hz1
        exact hz1
      have hFz := ex_none E.en.ef hHz
      have h0z := ex_none E.en.e0 hHz
      refine lc_it walk_iti (fun n H' => ∃ (F' : Hp) (la2 : List Addr) (acc : List V), EnM K H0 F0 F' (updZ M (la2.zip ls)) (upd H' d (.dK kvs)) σ G ∧ Ex F F' ∧ F' z = none ∧ z ∉ la2 ∧ H' z = some (.lst acc) ∧ RpA K F' acc ((((es.map fun p => p.1).take n).zip (la2.map D.ptr)).map itemD) ∧ la2.length = n ∧ la2.Nodup ∧ (∀ a ∈ la2, M a = none) ∧ H' d = some (.frz od (.dK kvs))) ?_ (fun n H' _ ⟨F', la2, acc, _, _, _, _, _, _, _, _, _, h⟩ => h) ?_ ?_
      · refine ⟨F, [], [], ?_, Ex.refl _, hFz, fun h => (nomatch h), upd_same, ?_, rfl, List.nodup_nil, fun a h => (nomatch h), by rw [upd_ne hdz]; exact upd_same⟩
        · rw [List.zip_nil_left, show updZ M [] = M from rfl, upd_swap (a := z) (b := d) hdz.symm, upd_upd, upd_id hHd]
          exact E.aside hFz h0z (E.free hHz) (E.freeO hHz)
        · rw [List.map_nil, List.zip_nil_right]
          exact .nil
      · rintro n x H2 H3 hlt ⟨F', la2, acc, E2, e', hFz', hzla, hz2, hracc, hla2, hnd, hMl, hd2⟩ ⟨T, k, vv, hk1, rfl, hT, rfl⟩
        have hTd : T ≠ d := fun y => by
          subst y
          rw [hd2] at hT
          cases hT
        have hTz : T ≠ z := fun y => by
          subst y
          rw [hz2] at hT
          cases hT
        have hjl : j < σ.length := by
          rw [E.en.len]
          exact hjG
        have hml : m < σ.length := by
          rw [E.en.len]
          exact hmG
        have hnla : n < la.length := by omega
        obtain ⟨vv', r1, r2⟩ := hr.get (List.getElem?_eq_getElem (l := la.map D.ptr) (i := n) (by rw [List.length_map]; exact hnla))
        rw [List.getElem?_map, hk1] at r1
        cases r1
        rw [List.getElem_map] at r2
        have hvv : vv = .ref (la.getD n 0) := by
          rw [List.getD_eq_getElem?_getD, List.getElem?_eq_getElem hnla]
          cases r2
          rfl
        have hMa := hst n hnla
        have hna2 : la.getD n 0 ∉ (la2.zip ls).map (fun p => p.1) := fun y => by
          rw [hMl _ (zip_fst_mem y)] at hMa
          cases hMa
        obtain ⟨_, oa, hoa, boa⟩ := E2.st (la.getD n 0) _ (by rw [updZ_out hna2]; exact hMa)
        cases boa with
        | lst rys =>
          rename_i ys
          have had : la.getD n 0 ≠ d := fun y => by
            rw [y, upd_same] at hoa
            cases hoa
          rw [upd_ne had] at hoa
          have haT : la.getD n 0 ≠ T := fun y => by
            rw [y, hT] at hoa
            cases hoa
          refine ⟨T, [kV k, vv], rfl, Or.inl (Or.inl upd_same), rfl, kV k, [vv], rfl, vv, [], rfl, rfl, ?_⟩
          refine ⟨?_, ?_⟩
          · rw [wipe_set_in (by simp), wipe_set_in (by simp)]
            exact wipe_twice fun u hu => hu
          unfold tYes
          dsimp only
          rw [if_pos rfl]
          refine ⟨kV k, by rw [List.getElem?_set_ne (Ne.symm hjm)]; exact List.getElem?_set_self (by rw [wipe_length]; exact hjl), vv, List.getElem?_set_self (by rw [List.length_set, wipe_length]; exact hml), la.getD n 0, ys, by rw [hvv], .inl (sq_of (by rw [upd_ne haT]; exact hoa)), fun p hpn => ⟨sz_of (by show 2 ≤ 100000; decide), fun U hU => ?_⟩⟩
          have hpT : p ≠ T := fun y => by
            subst y
            rw [upd_same] at hpn
            cases hpn
          rw [upd_ne hpT] at hpn
          have hpd : p ≠ d := fun y => by
            subst y
            rw [hd2] at hpn
            cases hpn
          have hpz : p ≠ z := fun y => by
            subst y
            rw [hz2] at hpn
            cases hpn
          have hUp : U ≠ p := fun y => by
            rw [y, upd_same] at hU
            cases hU
          rw [upd_ne hUp] at hU
          have hUT : U ≠ T := fun y => by
            rw [y, upd_same] at hU
            cases hU
          rw [upd_ne hUT] at hU
          have hUd : U ≠ d := fun y => by
            subst y
            rw [hd2] at hU
            cases hU
          have hUz : U ≠ z := fun y => by
            subst y
            rw [hz2] at hU
            cases hU
          have hTu : upd H2 d (.dK kvs) T = none := by
            rw [upd_ne hTd]
            exact hT
          have E2T := E2.aside (o := .tup [kV k, vv]) (z := T) (ex_none E2.en.ef hTu) (ex_none E2.en.e0 hTu) (E2.free hTu) (E2.freeO hTu)
          have hHu : upd (upd H2 d (.dK kvs)) T (.tup [kV k, vv]) p = none := by
            rw [upd_ne hpT, upd_ne hpd]
            exact hpn
          have hFp := ex_none E2T.en.ef hHu
          have h0p := ex_none E2T.en.e0 hHu
          have hMp : updZ M (la2.zip ls) p = none := E2T.free hHu
          have hpla : p ∉ la2 := fun y => by
            obtain ⟨r, hr1, hr2⟩ := List.getElem_of_mem y
            have hat := updZ_at (M := M) (la := la2) (ls := ls.take la2.length) hnd (by rw [List.length_take]; omega) hr1
            have hzip : la2.zip (ls.take la2.length) = la2.zip ls := zip_take la2 ls
            rw [hzip, List.getD_eq_getElem?_getD, List.getElem?_eq_getElem hr1] at hat
            have hat2 : updZ M (la2.zip ls) (la2[r]'hr1) = some (.lst ((ls.take la2.length).getD r [])) := hat
            rw [hr2, hMp] at hat2
            cases hat2
          have hMp0 : M p = none := by
            rw [updZ_out (fun y => hpla (zip_fst_mem y))] at hMp
            exact hMp
          have E3 := E2T.grow (Ex.refl F') (Ex.new (o := .lst ys) hHu) (E2T.en.ef.trans (Ex.new hHu)) (Nw.refl F' _)
          have E4 := E3.new (n := .lst (ls.getD n [])) upd_same hFp h0p (fun j w hj hs => E2T.freeO hHu j w hj hs) (.lst rys)
          have hUu : upd (upd (upd H2 d (.dK kvs)) T (.tup [kV k, vv])) p (.lst ys) U = none := by
            rw [upd_ne hUp, upd_ne hUT, upd_ne hUd]
            exact hU
          have hFU := ex_none E4.en.ef hUu
          have eU : Ex F' (upd F' U (.tup [kV k, .ref p])) := Ex.new hFU
          have E5 := E4.grow eU (Ex.new hUu) (ex_upd_both E4.en.ef) (nw_upd hUu (Nw.refl F' _))
          have hlacc : acc.length = n := by
            rw [hracc.length, List.length_map, List.length_zip, List.length_take, List.length_map, List.length_map]
            omega
          have hlsn : ls[n]? = some (ls.getD n []) := by
            rw [List.getD_eq_getElem?_getD, List.getElem?_eq_getElem (by omega)]
            rfl
          refine ⟨acc, by rw [upd_ne hUz.symm, upd_ne hpz.symm, upd_ne hTz.symm]; exact hz2, sz_lt (by omega), upd F' U (.tup [kV k, .ref p]), la2 ++ [p], acc ++ [.ref U], ?_, e'.trans eU, by rw [upd_ne hUz.symm]; exact hFz', fun y => ?_, upd_same, ?_, by rw [List.length_append, hla2]; rfl, ?_, fun a ha => ?_, by rw [upd_ne hdz, upd_ne hUd.symm, upd_ne hpd.symm, upd_ne hTd.symm]; exact hd2⟩
          · rw [zip_snoc2 hlsn hla2, updZ_snoc (fun y => hpla (zip_fst_mem y)), upd_swap (a := z) (b := d) hdz.symm, upd_swap (a := U) (b := d) hUd, upd_swap (a := p) (b := d) hpd, upd_swap (a := T) (b := d) hTd]
            refine E5.aside (by rw [upd_ne hUz.symm]; exact hFz') h0z ?_ (fun j w hj hs => E.freeO hHz j w hj hs)
            rw [updM_ne hpz.symm, updZ_out (fun h => hzla (zip_fst_mem h))]
            exact E.free hHz
          · rcases List.mem_append.mp y with y | y
            · exact hzla y
            · exact hpz (List.mem_singleton.mp y).symm
          · have hke : (es.map fun p => p.1)[n]? = some k := by
              rw [← hk, List.getElem?_map, hk1]
              rfl
            have et : (es.map fun p => p.1).take (n + 1) = (es.map fun p => p.1).take n ++ [k] := by
              rw [List.take_succ, hke]
              rfl
            have ez : ((es.map fun p => p.1).take n ++ [k]).zip ((la2 ++ [p]).map D.ptr) = ((es.map fun p => p.1).take n).zip (la2.map D.ptr) ++ [(k, D.ptr p)] := by
              rw [List.map_append]
              exact List.zip_append (by rw [List.length_map, List.length_take, List.length_map]; omega)
            rw [et, ez, List.map_append]
            exact (hracc.mono eU).app (.cons (.tup upd_same (.cons (rp_key _) (.cons (.ptr p) .nil))) .nil)
          · exact List.nodup_append.mpr ⟨hnd, List.nodup_cons.mpr ⟨(fun h => nomatch h), List.nodup_nil⟩, fun a ha b hb => by
              rw [List.mem_singleton] at hb
              subst hb
              exact fun y => hpla (y ▸ ha)⟩
          · rcases List.mem_append.mp ha with y | y
            · exact hMl a y
            · rw [List.mem_singleton.mp y]
              exact hMp0
      · rintro H2 ⟨F', la2, acc, E2, e', hFz', hzla, hz2, hracc, hla2, hnd, hMl, hd2⟩
        rw [hlen, show es.length = (es.map fun p => p.1).length from (List.length_map ..).symm, List.take_length] at hracc
        have eD : Ex F' (upd F' z (.lst acc)) := Ex.new hFz'
        have hzz : upd H2 d (.dK kvs) z = some (.lst acc) := by
          rw [upd_ne hdz.symm]
          exact hz2
        refine ⟨hd2, q _ _ (hp la2 (by omega) hnd hMl) (.ref z) _ _ (E2.addF hFz' hzz h0z ?_ (fun j w hj hs => E.freeO hHz j w hj hs)) (e'.trans eD) (.lst upd_same (hracc.mono eD))⟩
        rw [updZ_out (fun h => hzla (zip_fst_mem h))]
        exact E.free hHz⟩
theorem Ro.opened {H0 F0 F H : Hp} {σ : L2.St} (E : Cy.En K H0 F0 F H σ G) {a : Addr} {o z : HO} {F2 H2 : Hp} (ha : F a = some o) (r : Ro (upd H a z) (upd F a z) F2 H2) : Ro H0 F0 (upd F2 a o) (upd H2 a o) where
  e0 := E.e0.trans fun b u h => by
    by_cases q : b = a
    · subst q
      rw [E.ef _ _ ha] at h
      rw [upd_same]
      exact h
    · rw [upd_ne q]
      exact r.e0 b u (by rw [upd_ne q]; exact h)
  ef := fun b u h => by
    by_cases q : b = a
    · subst q
      rw [upd_same] at h ⊢
      exact h
    · rw [upd_ne q] at h ⊢
      exact r.ef _ _ h
  e1 := E.e1.trans fun b u h => by
    by_cases q : b = a
    · subst q
      rw [ha] at h
      rw [upd_same]
      exact h
    · rw [upd_ne q]
      exact r.e1 b u (by rw [upd_ne q]; exact h)
  nf := fun b u h => by
    by_cases q : b = a
    · subst q
      rw [upd_same] at h
      exact E.nf _ _ (by rw [ha]; exact h)
    · rw [upd_ne q] at h
      rcases r.nf b u h with y | y
      · exact E.nf _ _ (by rw [upd_ne q] at y; exact y)
      · exact .inr (ex_none E.e0 (by rw [upd_ne q] at y; exact y))
def firstP (f : Key × D → Option D) : List (Key × D) → Option D
  | [] => none
  | p :: es => match f p with
    | some r => some r
    | none => firstP f es
theorem firstP_none {f : Key × D → Option D} : ∀ {es : List (Key × D)}, (∀ p ∈ es, f p = none) → firstP f es = none
  | [], _ => rfl
  | p :: es, h => by
    unfold firstP
    rw [h p List.mem_cons_self]
    exact firstP_none fun q hq => h q (List.mem_cons_of_mem _ hq)
theorem firstP_at {f : Key × D → Option D} {r : D} : ∀ {es : List (Key × D)} {n : Nat} {p : Key × D}, es[n]? = some p → f p = some r → (∀ m q, m < n → es[m]? = some q → f q = none) → firstP f es = some r
  | e :: es, 0, p, h, hf, _ => by
    have : e = p := by simpa using h
    subst this
    unfold firstP
    rw [hf]
  | e :: es, n + 1, p, h, hf, hb => by
    unfold firstP
    rw [hb 0 e (Nat.succ_pos _) rfl]
    exact firstP_at (n := n) (by simpa using h) hf fun m q hm hq => hb (m + 1) q (Nat.succ_lt_succ hm) (by simpa using hq)
theorem En.forget {H0 F0 F H : Hp} {σ : L2.St} (E : Cy.En K H0 F0 F H σ G1) (hl : G1.length = G'.length) (h : ∀ (i : Nat) (s : Sl), G'[i]? = some s → s = .no ∨ G1[i]? = some s) : Cy.En K H0 F0 F H σ G' where
  dat := fun i d q => by
    rcases h i _ q with y | y
    · cases y
    · exact E.dat i d y
  own := fun i u q => by
    rcases h i _ q with y | y
    · cases y
    · exact E.own i u y
  dis := fun i j li lj p hij q1 q2 => by
    rcases h i _ q1 with y | y
    · cases y
    · rcases h j _ q2 with z | z
      · cases z
      · exact E.dis i j li lj p hij y z
  e0 := E.e0
  ef := E.ef
  e1 := E.e1
  nf := E.nf
  len := by rw [E.len, hl]
theorem En.openedL {H0 F0 F H : Hp} {σ σ2 : L2.St} (E : Cy.En K H0 F0 F H σ G) (w : Lk G G') {a : Addr} {o z : HO} {F2 H2 : Hp} (ha : F a = some o) (hz : ∀ xs, z ≠ .lst xs ∧ z ≠ .tup xs) (E2 : Cy.En K (upd H a z) (upd F a z) F2 H2 σ2 G') : Cy.En K H0 F0 (upd F2 a o) (upd H2 a o) σ2 G' := by
  have r := Ro.opened E ha E2.ro
  have h2 : F2 a = some z := E2.e1 _ _ upd_same
  exact {
    dat := fun i d q => by
      rcases w.get q with y | ⟨d', q1, q2, _⟩
      · cases y
      · cases q1
        obtain ⟨v, k1, k2⟩ := E2.dat i d q
        exact ⟨v, k1, k2.beside (fun xs => ⟨(fun y => (hz xs).1 (by rw [h2] at y; exact Option.some.inj y)), (fun y => (hz xs).2 (by rw [h2] at y; exact Option.some.inj y))⟩) q2⟩
    own := fun i u q => by
      rcases w.get q with y | ⟨d', q1, _⟩
      · cases y
      · cases q1
    dis := fun i j li lj p _ q => by
      rcases w.get q with y | ⟨d', q1, _⟩
      · cases y
      · cases q1
    e0 := r.e0
    ef := r.ef
    e1 := r.e1
    nf := r.nf
    len := E2.len }
/-- for k, v in own[k0].items(): .. the first that is looked for -/
theorem st_forItems {i j m : Nat} {k0 : Str} {ds : List (Key × D)} (f : Key × D → Option D) (hjm : j ≠ m) (hx : G[i]? = some (.dat (.dic ds))) (hk0 : valE ds (.inr k0) = some (.dic es)) (hlst : ∀ p ∈ es, ∃ l, p.2 = .lst l ∧ plnA l = true) (w : Lk G G')
    (hnj : G'[j]? = some .no) (hnm : G'[m]? = some .no)
    (hb : ∀ p ∈ es, StD K tu ((G'.set j (.dat (keyD p.1))).set m (.dat p.2)) (match f p with | some r => .rt r | none => .nx ((G'.set j (.dat (keyD p.1))).set m (.dat p.2)))) (hr : ∀ p ∈ es, ∀ r, f p = some r → plnD r = true) :
    StD K (tLock (tFor (iItems (tDGet (tVar i) (tC (.str k0)))) (gTup K 2 (gCons (gName j) (gCons (gName m) gNil))) tu)) G (match firstP f es with | some r => .rt r | none => .nx G') := .mk fun {H0 F0 F H σ E} En p => by
  obtain ⟨v, hv, rv⟩ := En.dat i _ hx
  cases rv with
  | dic ho hno hro =>
    rename_i ow kvo
    obtain ⟨v', hv1, rv'⟩ := (valE_rp hno hro).1 _ hk0
    cases rv' with
    | dic hd hk hrd =>
      rename_i d kvs
      have hod : ow ≠ d := fun y => by
        subst y
        rw [ho] at hd
        cases hd
        cases q1 : valE es (.inr k0) with
        | none =>
          have := (valE_rp hk hrd).2 q1
          rw [hv1] at this
          cases this
        | some d' =>
          obtain ⟨v2, w1, w2⟩ := (valE_rp hk hrd).1 _ q1
          rw [hv1] at w1
          cases w1
          obtain ⟨p', hp1, hp2⟩ := List.mem_map.mp (valE_mem q1)
          obtain ⟨l, hl1, _⟩ := hlst p' hp1
          rw [← hp2, hl1] at w2
          cases w2 with
          | lst hbad _ =>
            rw [ho] at hbad
            cases hbad
      refine ⟨d, _, En.ef _ _ hd, trivial, fun od => ?_⟩
      have hN : ∀ xs, (HO.dK kvs) ≠ .lst xs ∧ (HO.dK kvs) ≠ .tup xs := fun xs => ⟨(fun y => nomatch y), (fun y => nomatch y)⟩
      have hZ : ∀ xs, (HO.frz od (.dK kvs)) ≠ .lst xs ∧ (HO.frz od (.dK kvs)) ≠ .tup xs := fun xs => ⟨(fun y => nomatch y), (fun y => nomatch y)⟩
      have hNF : ∀ xs, F d ≠ some (.lst xs) ∧ F d ≠ some (.tup xs) := fun xs => ⟨(fun y => by rw [hd] at y; cases y), (fun y => by rw [hd] at y; cases y)⟩
      have EL := Cy.En.locked (z := .frz od (.dK kvs)) En w hd hN
      have hpl : ∀ p ∈ es, plnD p.2 = true := fun p hp => by
        obtain ⟨l, h1, h2⟩ := hlst p hp
        rw [h1]
        unfold plnD
        exact h2
      have hr' : RpA K (upd F d (.frz od (.dK kvs))) (kvs.map fun p => p.2) (es.map fun p => p.2) := hrd.beside hNF (plnA_of fun dd hdd => by
        obtain ⟨p, hp1, rfl⟩ := List.mem_map.mp hdd
        exact hpl p hp1)
      have wk := wk_items (od := od) (F := upd F d (.frz od (.dK kvs))) upd_same hk hr'
      obtain ⟨Gp, Y, wlk, hg, hy⟩ := wk.ex
      have hget : DGet (upd H d (.frz od (.dK kvs))) ow (kV (.inr k0)) (valV kvo (.inr k0)) := DGet.k (by rw [upd_ne hod]; exact En.ef _ _ ho)
      rw [hv1] at hget
      unfold tFor iItems
      refine ⟨.ref ow, hv, ow, .ref d, rfl, hget, d, od, kvs, rfl, upd_same, ?_⟩
      refine for_it wlk (fun n σ' H' => ∃ F' : Hp, Cy.En K (upd H d (.frz od (.dK kvs))) (upd F d (.frz od (.dK kvs))) F' H' σ' G' ∧ Ex (upd F d (.frz od (.dK kvs))) F' ∧ ∀ r q, r < n → es[r]? = some q → f q = none) ⟨_, EL, Ex.refl _, fun r q h => absurd h (Nat.not_lt_zero _)⟩ (fun n σ' H' _ ⟨F', E', e', _⟩ => hg H' (e'.trans E'.ef)) ?_ ?_
      · rintro n x σ2 H2 H3 hlt ⟨F', E', e', hf⟩ y
        obtain ⟨F2, dd, k1, k2, k3, k4, hd2, r2⟩ := hy n H2 x H3 F' e' E'.ef y
        have E3 := E'.grow k1 k2 k3 k4
        obtain ⟨p', hp1, hp2⟩ : ∃ p', es[n]? = some p' ∧ dd = itemD p' := by
          rw [List.getElem?_map] at hd2
          cases q : es[n]? with
          | none =>
            rw [q] at hd2
            cases hd2
          | some p' =>
            rw [q] at hd2
            cases hd2
            exact ⟨p', rfl, rfl⟩
        subst hp2
        have hmem : p' ∈ es := by
          obtain ⟨h1, h2⟩ := List.getElem?_eq_some_iff.mp hp1
          exact h2 ▸ List.getElem_mem h1
        refine (g_tup (ds := [keyD p'.1, p'.2]) (gs_cons g_name (gs_cons g_name gs_nil)) rfl) E3 r2 _ fun σ4 E4 => ?_
        refine hb p' hmem E4 ?_
        cases hfp : f p' with
        | none =>
          exact fun σ5 F5 H5 E5 f5 => ⟨F5, E5.forget (by rw [List.length_set, List.length_set]) (fun a s hs => by
            by_cases ha : a = j
            · subst ha
              rw [hnj] at hs
              exact .inl (Option.some.inj hs).symm
            · by_cases hb2 : a = m
              · subst hb2
                rw [hnm] at hs
                exact .inl (Option.some.inj hs).symm
              · rw [List.getElem?_set_ne (Ne.symm hb2), List.getElem?_set_ne (Ne.symm ha)]
                exact .inr hs), (e'.trans k1).trans f5, fun r q hrn hq => by
            rcases Nat.lt_or_ge r n with z | z
            · exact hf r q z hq
            · have : r = n := by omega
              subst this
              rw [hp1] at hq
              cases hq
              exact hfp⟩
        | some r =>
          have e := firstP_at hp1 hfp hf
          rw [e] at p
          exact fun v F5 H5 ro rr => ⟨ro.e0 _ _ upd_same, p v _ _ (Ro.opened En hd ro) (rr.beside (fun xs => ⟨(fun y => (hZ xs).1 (by rw [ro.e1 _ _ upd_same] at y; exact Option.some.inj y)), (fun y => (hZ xs).2 (by rw [ro.e1 _ _ upd_same] at y; exact Option.some.inj y))⟩) (hr p' hmem r hfp))⟩
      · rintro σ2 H2 ⟨F', E', e', hf⟩
        have e : firstP f es = none := firstP_none fun q hq => by
          obtain ⟨n, hn1, hn2⟩ := List.getElem_of_mem hq
          exact hf n q (by rw [List.length_map]; exact hn1) (by rw [List.getElem?_eq_getElem hn1, hn2])
        rw [e] at p
        refine ⟨E'.e0 _ _ upd_same, p σ2 _ _ (En.openedL w hd hZ E') fun b u h => ?_⟩
        by_cases q : b = d
        · subst q
          rw [hd] at h
          rw [upd_same]
          exact h
        · rw [upd_ne q]
          exact e' b u (by rw [upd_ne q]; exact h)
end
end Cy

set_option Elab.async false
set_option linter.all false
set_option maxRecDepth 100000
set_option maxHeartbeats 4000000
namespace Cy
open PySem PySem.Spec PyProof.Rows L2 Evl
mutual
/-- no list in it -/
def nlD : D → Bool
  | .lst _ => false
  | .tup xs => nlA xs
  | .dic es => nlK es
  | .obj _ _ => false
  | .exc _ => false
  | .scr _ => false
  | _ => true
def nlA : List D → Bool
  | [] => true
  | x :: xs => nlD x && nlA xs
def nlK : List (Key × D) → Bool
  | [] => true
  | (_, x) :: es => nlD x && nlK es
end
theorem nlK_map : ∀ es : List (Key × D), nlK es = nlA (es.map fun p => p.2)
  | [] => by
    unfold nlK
    rw [List.map_nil]
    unfold nlA
    rfl
  | (s, x) :: es => by
    unfold nlK
    rw [List.map_cons]
    unfold nlA
    rw [nlK_map es]
theorem nlA_of : ∀ {l : List D}, (∀ d ∈ l, nlD d = true) → nlA l = true
  | [], _ => by
    unfold nlA
    rfl
  | x :: xs, h => by
    unfold nlA
    rw [h x List.mem_cons_self, nlA_of fun d hd => h d (List.mem_cons_of_mem _ hd)]
    rfl
section
variable {K : PySem.W.Frag}
mutual
theorem Rp.hid2 {F : Hp} {p : Addr} {xs : List V} (hp : F p = some (.lst xs)) : ∀ {v : V} {d : D}, Rp K F v d → nlD d = true → Rp K (hid F p) v d
  | _, _, .non, _ => .non
  | _, _, .bl b, _ => .bl b
  | _, _, .int i, _ => .int i
  | _, _, .str x, _ => .str x
  | _, .tup ds, .tup h r, q => .tup (by
      rw [hid_ne (fun z => by subst z; rw [hp] at h; cases h)]
      exact h) (RpA.hid2 hp r (by unfold nlD at q; exact q))
  | _, .lst _, .lst _ _, q => by unfold nlD at q; cases q
  | _, .dic es, .dic h r1 r2, q => .dic (by
      rw [hid_ne (fun z => by subst z; rw [hp] at h; cases h)]
      exact h) r1 (RpA.hid2 hp r2 (by unfold nlD at q; rw [nlK_map] at q; exact q))
  | _, .obj C fs, .obj h1 h2 r, q => by unfold nlD at q; cases q
  | _, .exc _, .exc _, q => by unfold nlD at q; cases q
  | _, .ptr _, .ptr a, _ => .ptr a
  | _, .scr _, .scr _, q => by unfold nlD at q; cases q
theorem RpA.hid2 {F : Hp} {p : Addr} {xs : List V} (hp : F p = some (.lst xs)) : ∀ {vs : List V} {ds : List D}, RpA K F vs ds → nlA ds = true → RpA K (hid F p) vs ds
  | _, _, .nil, _ => .nil
  | _, d :: ds, .cons r t, q => by
    unfold nlA at q
    rw [Bool.and_eq_true] at q
    exact .cons (Rp.hid2 hp r q.1) (RpA.hid2 hp t q.2)
end
end
def nlN : Nd → Bool
  | .lst l => nlA l
  | .dic es => nlA (es.map fun p => p.2)
  | .ins _ fs => nlA (fs.map fun p => p.2)
  | .dicL _ _ es => nlA (es.map fun p => p.2)
  | .tb _ => true
theorem BearN.hid2 {K : PySem.W.Frag} {F : Hp} {p : Addr} {xs : List V} (hp : F p = some (.lst xs)) {o : HO} {n : Nd} (h : BearN K F o n) (q : nlN n = true) : BearN K (hid F p) o n := by
  cases h with
  | lst r => exact .lst (r.hid2 hp q)
  | dic k r => exact .dic k (r.hid2 hp q)
  | ins k r => exact .ins k (r.hid2 hp q)
  | dicL k r => exact .dicL k (r.hid2 hp q)
  | tb k r => exact .tb k fun pos cv h => (r pos cv h).elim fun c z => ⟨c, z.1, by
      have hne : c ≠ p := fun e => by
        rw [e, hp] at z
        exact absurd (Option.some.inj z.2) (fun y => by unfold LamX.CodeO at y; cases y)
      rw [hid_ne hne]
      exact z.2⟩
section
variable {K : PySem.W.Frag} {M M1 M2 : Sto} {G G' G1 : List Sl} {te td ty tv tb to tx : TE} {ta tr : TA} {t u : TT} {tu tw tz : TS} {d a b c : D} {ds l : List D} {X : XK} {P P1 : Out → Sto → Prop} {R R1 : Res → Sto → Prop} {o : Out} {g : TG} {C : Addr} {es : List (Key × D)}
/-- x = C(xs), xs an own list that is changed later -/
theorem m_lendMake {Rel : RelI} {i j : Nat} (hij : i ≠ j) (hi : G[i]? = some (.own (.lst l))) (hone : ∀ n w, n ≠ i → G[n]? ≠ some (.own w)) (hj : ∀ w, G[j]? ≠ some (.own w))
    (hR : ∀ x, M x = none → ∃ Pr : Res → Sto → Prop, Rel x [.lst l] M Pr ∧ (∀ d M', Pr (.ok d) M' → ∃ M'' : Sto, (∀ a n, M'' a = some n → M' a = some n ∧ nlN n = true) ∧ P (.nx (G.set j (.dat (.ptr x)))) M'') ∧ ∀ C M', ¬ Pr (.exc C) M') :
    StM K (tAsg (tMake C (spMI K C Rel) [] X (tCons (tVar i) tNil)) (gName j)) M G P := ⟨fun {H0 F0 F H σ E} En pp => by
  obtain ⟨p, o, k1, k2, k3, k4, k5⟩ := En.en.own i _ hi
  cases k5 with
  | lst rxs =>
    rename_i xs
    refine ⟨.ref p, k1, fun x dx hx hdx hne => ?_⟩
    obtain ⟨Pr, z1, z2, z3⟩ := hR x (En.free hx)
    have eF : Ex F (upd F p (.lst xs)) := Ex.new k2
    have efF : Ex (upd F p (.lst xs)) H := fun a u q => by
      by_cases ha : a = p
      · subst ha
        rw [upd_same] at q
        cases q
        exact k4
      · rw [upd_ne ha] at q
        exact En.en.ef _ _ q
    have hMp : M p = none := En.ow i _ p hi k1
    have st1 : Cells K (upd F p (.lst xs)) M H := fun a n q => by
      obtain ⟨w1, w2, w3, w4⟩ := En.st a n q
      have ha : a ≠ p := fun y => by
        subst y
        rw [hMp] at q
        cases q
      exact ⟨by rw [upd_ne ha]; exact w1, w2, w3, w4.mono eF⟩
    refine ⟨upd F p (.lst xs), H, x, dx, [.ref p] ++ [], [.lst l], M, Pr, rfl, rfl, hx, hdx, hne, efF, .cons (.lst upd_same (rxs.mono eF)) .nil, st1, z1, fun r M' q => ?_⟩
    cases r with
    | exc C => exact absurd q (z3 C M')
    | ok d =>
      refine fun F2 H2 ro => ⟨rfl, ?_⟩
      obtain ⟨M'', w1, w2⟩ := z2 d M' q
      have hF2p : F2 p = some (.lst xs) := ro.ro.e1 p _ upd_same
      have hF3p : hid F2 p p = none := if_pos rfl
      have eF3 : Ex F (hid F2 p) := fun a u h => by
        have ha : a ≠ p := fun y => by
          subst y
          rw [k2] at h
          cases h
        rw [hid_ne ha]
        exact ro.ro.e1 a u (by rw [upd_ne ha]; exact h)
      have F3le : ∀ a u, hid F2 p a = some u → a ≠ p ∧ F2 a = some u := fun a u h => by
        have ha : a ≠ p := fun y => by
          subst y
          rw [hF3p] at h
          cases h
        rw [hid_ne ha] at h
        exact ⟨ha, h⟩
      have hM0 : ∀ a u, H0 a = some u → M a = none := fun a u h => by
        cases y : M a with
        | none => rfl
        | some n =>
          rw [En.h0 a n y] at h
          cases h
      have un0 : ∀ a, unseen M H a = none → H0 a = none := fun a h => by
        cases y : H0 a with
        | none => rfl
        | some u =>
          rw [unseen_none (hM0 a u y), En.en.e0 a u y] at h
          cases h
      have E3 : EnM K H0 F0 (hid F2 p) M'' H2 σ G := {
        en := {
          dat := fun n d h => by
            obtain ⟨v, a1, a2⟩ := En.en.dat n d h
            exact ⟨v, a1, a2.mono eF3⟩
          own := fun n w h => by
            by_cases hn : n = i
            · subst hn
              rw [hi] at h
              cases h
              exact ⟨p, .lst xs, k1, hF3p, k3, ro.ro.ef _ _ hF2p, .lst (rxs.mono eF3)⟩
            · exact absurd h (hone n w hn)
          dis := En.en.dis
          e0 := fun a u h => ro.ro.e0 a u (by rw [unseen_none (hM0 a u h)]; exact En.en.e0 a u h)
          ef := fun a u h => ro.ro.ef _ _ (F3le a u h).2
          e1 := En.en.e1.trans eF3
          nf := fun a u h => by
            obtain ⟨ha, h2⟩ := F3le a u h
            rcases ro.ro.nf a u h2 with y | y
            · rw [upd_ne ha] at y
              exact En.en.nf a u y
            · exact .inr (un0 a y)
          len := En.en.len }
        st := fun a n h => by
          obtain ⟨h1, h2⟩ := w1 a n h
          obtain ⟨c1, c2, c3, c4⟩ := ro.st a n h1
          refine ⟨?_, c2, c3, c4.hid2 hF2p h2⟩
          by_cases ha : a = p
          · rw [ha]
            exact hF3p
          · rw [hid_ne ha]
            exact c1
        h0 := fun a n h => un0 a (ro.h0 a n (w1 a n h).1)
        ow := fun n w p' h hs => by
          by_cases hn : n = i
          · subst hn
            rw [k1] at hs
            cases hs
            cases y : M'' p with
            | none => rfl
            | some nn =>
              have := (ro.st p nn (w1 p nn y).1).1
              rw [hF2p] at this
              cases this
          · exact absurd h (hone n w hn) }
      unfold gName
      exact pp _ _ w2 _ _ H2 (E3.setD (.ptr x) j) eF3⟩
/-- xs.append(e), xs an own list, e changes the store -/
theorem m_appO {i : Nat} (h : G[i]? = some (.own (.lst l))) (he : EvM K te X M G R1) (hz : l.length < 100000) (hp : ∀ d M', R1 (.ok d) M' → P (.nx (G.set i (.own (.lst (l ++ [d]))))) M') (hx : ∀ C M', ¬ R1 (.exc C) M') : StM K (tDrop (tBM K "list" rAppend (tVar i) (tCons te tNil))) M G P := ⟨fun {H0 F0 F H σ E} En pp => by
  unfold tDrop tBM
  exact e_own h En.en fun q xs hq hH hF hr => ⟨Or.inl ⟨rfl, xs, sq_of hH⟩, he.run En _ (fun d M' k v F1 H1 E1 f1 r1 => by
    obtain ⟨q2, o2, a1, a2, a3, a4, a5⟩ := E1.en.own i _ h
    rw [hq] at a1
    cases a1
    cases a5 with
    | lst r5 =>
      rename_i xs2
      refine ⟨q, xs2, v, rfl, rfl, a4, sz_lt (by rw [r5.length]; exact hz), ?_⟩
      have hMq := E1.ow i _ q h hq
      have em := E1.en.mut h hq (l' := .lst (l ++ [d])) (.lst (r5.app (.cons r1 .nil)))
      refine pp _ _ (hp d M' k) σ F1 _ ⟨em, fun a n hm => ?_, E1.h0, fun n w p2 h1 h2 => ?_⟩ f1
      · obtain ⟨c1, c2, c3, c4⟩ := E1.st a n hm
        have ha : a ≠ q := fun y => by
          subst y
          rw [hMq] at hm
          cases hm
        exact ⟨c1, c2, by rw [upd_ne ha]; exact c3, c4⟩
      · by_cases hn : i = n
        · subst hn
          rw [hq] at h2
          cases h2
          exact hMq
        · rw [List.getElem?_set_ne hn] at h1
          exact E1.ow n w p2 h1 h2) fun C M' k => absurd k (hx C M')⟩⟩
/-- an own list stays as it is from here on -/
theorem m_freezeO {i : Nat} (h : G[i]? = some (.own (.lst l))) (hs : StM K tu M (G.set i (.dat (.lst l))) P) : StM K tu M G P := ⟨fun {H0 F0 F H σ E} En p => by
  obtain ⟨q, xs, hF, hH, E1⟩ := En.en.freezeL h
  obtain ⟨q2, o2, a1, a2, a3, a4, a5⟩ := En.en.own i _ h
  have eF : Ex F (upd F q (.lst xs)) := Ex.new hF
  have hl : i < G.length := (List.getElem?_eq_some_iff.mp h).1
  obtain ⟨v, b1, b2⟩ := E1.dat i (.lst l) (List.getElem?_set_self hl)
  rw [a1] at b1
  cases b1
  have hq : q2 = q := by
    cases b2 with
    | lst h2 _ =>
      by_cases e : q2 = q
      · exact e
      · rw [upd_ne e, a2] at h2
        cases h2
  subst hq
  have hM := En.ow i _ q2 h a1
  exact hs.run (F := upd F q2 (.lst xs)) ⟨E1, fun a n hm => by
    obtain ⟨c1, c2, c3, c4⟩ := En.st a n hm
    have ha : a ≠ q2 := fun y => by
      subst y
      rw [hM] at hm
      cases hm
    exact ⟨by rw [upd_ne ha]; exact c1, c2, c3, c4.mono eF⟩, En.h0, fun n w p2 h1 h2 => by
    by_cases hn : i = n
    · subst hn
      rw [List.getElem?_set_self hl] at h1
      cases h1
    · rw [List.getElem?_set_ne hn] at h1
      exact En.ow n w p2 h1 h2⟩ fun o M' q => (p o M' q).weak eF⟩
/-- o.m(..) that hands back a new list -/
theorem o_methO {C : Addr} {fs : List (Str × D)} {m : Str} {R : List D → List D → Prop} {E : XK} {ta : TE} {tr : TA} (h : EvD K ta G (.obj C fs)) (hm : fs.lookup m = none) (hr : EvS K tr G ds) (hR : R (.obj C fs :: ds) l) : EvO K (tMeth C m (spO K R) [] E ta tr) G l := .mk fun {H0 F0 F H σ} En Q q => h En _ fun v F1 H1 E1 f1 g1 n1 r1 => by
  have r1' := r1
  cases r1' with
  | obj h1 h2 h3 =>
    refine ⟨_, _, _, rfl, E1.ef _ _ h1, lookup_none h2 hm, hr E1 _ fun vs F2 H2 E2 f2 g2 n2 r2 => ?_⟩
    refine ⟨F2, .obj C fs :: ds, l, E2.ef, by rw [List.append_nil]; exact .cons (r1.mono f2) r2, hR, fun p xs F3 H3 ro hp hf hh r3 => ?_⟩
    exact q p xs F3 H3 (E2.grow ro.e1 ro.e0 ro.ef ro.nf) ((f1.trans f2).trans ro.e1) ((g1.trans g2).trans ro.e0) ((n1.trans n2 g1).trans ro.nf (g1.trans g2)) (ex_none (g1.trans g2) hp) hf hh r3
/-- x, y = .., .., new lists both -/
theorem st_parO {i j : Nat} {l m : List D} (hij : i ≠ j) (hone : ∀ (n : Nat) (w : Ow), G[n]? ≠ some (Sl.own w)) (h1 : EvO K te G l) (h2 : EvO K tb G m) : StD K (tPar i j (tCons te (tCons tb tNil))) G (.nx ((G.set i (.own (.lst l))).set j (.own (.lst m)))) := .mk fun {H0 F0 F H σ E} En p =>
  h1 En _ fun p1 xs F1 H1 E1 f1 g1 n1 hp1 hf1 hh1 r1 => h2 E1 _ fun p2 ys F2 H2 E2 f2 g2 n2 hp2 hf2 hh2 r2 => by
    have hF2 : F2 p1 = none := by
      cases z : F2 p1 with
      | none => rfl
      | some o =>
        rcases n2 p1 o z with y | y
        · rw [hf1] at y
          cases y
        · rw [hh1] at y
          cases y
    have hne : p1 ≠ p2 := fun y => by
      rw [← y, hh1] at hp2
      cases hp2
    have Ea := E2.setO hF2 (ex_none En.e0 hp1) (g2 _ _ hh1) (.lst (r1.mono f2)) i fun n w hn _ hs => absurd hn (hone n w)
    have Eb := Ea.setO hf2 (ex_none E1.e0 hp2) hh2 (.lst r2) j fun n w hn _ hs => by
      by_cases hni : i = n
      · subst hni
        have hl : i < σ.length := by
          have := (List.getElem?_eq_some_iff.mp hs).1
          rw [List.length_set] at this
          exact this
        rw [List.getElem?_set_self hl] at hs
        exact hne (V.ref.inj (Option.some.inj (Option.some.inj hs)))
      · rw [List.getElem?_set_ne hni] at hn
        exact hone n w hn
    exact ⟨.ref p1, .ref p2, rfl, p _ F2 H2 Eb (f1.trans f2)⟩
theorem EnM.less {H0 F0 F H : Hp} {σ : L2.St} (E : EnM K H0 F0 F M H σ G) (h : ∀ a n, M1 a = some n → M a = some n) : EnM K H0 F0 F M1 H σ G :=
  ⟨E.en, fun a n q => E.st a n (h a n q), fun a n q => E.h0 a n (h a n q), fun i w p h1 h2 => by
    cases y : M1 p with
    | none => rfl
    | some n =>
      have := E.ow i w p h1 h2
      rw [h p n y] at this
      cases this⟩
def lessM (M : Sto) (p : Addr) : Sto := fun a => if a = p then none else M a
theorem lessM_ne {M : Sto} {a p : Addr} (h : a ≠ p) : lessM M p a = M a := if_neg h
/-- {k1: x, k2: ..}: the second one changes the store -/
theorem e_mdisp2 {t1 t2 : TE} {k1 k2 : Str} {d1 : D} {R1 : Addr → Res → Sto → Prop} (hk : k1 ≠ k2) (h1 : EvD K t1 G d1) (h2 : ∀ p, M p = none → EvM K t2 X (updM M p (.dic [])) G (R1 p)) (hp : ∀ p d2 M', M p = none → R1 p (.ok d2) M' → M' p = some (.dic []) ∧ R (.ok (.dic [(.inr k1, d1), (.inr k2, d2)])) (lessM M' p)) (hx : ∀ p C M', ¬ R1 p (.exc C) M') : EvM K (tDisp (((tC (.str k1)), t1) :: ((tC (.str k2)), t2) :: [])) X M G R := ⟨fun {H0 F0 F H σ} E Q q qx => fun z hz => by
  have hMz := E.free hz
  have E1 := (E.grow (Ex.refl F) (Ex.new (o := .dK []) hz) (E.en.ef.trans (Ex.new hz)) (Nw.refl F H)).new (n := .dic []) upd_same (ex_none E.en.ef hz) (ex_none E.en.e0 hz) (fun i w hj hs => E.freeO hz i w hj hs) (.dic rfl .nil)
  unfold tPairs
  refine h1 E1.en _ fun v F2 H2 E2 f2 g2 n2 r2 => ?_
  have E2' := E1.withG E2 f2 g2 n2
  unfold tPairs
  refine (h2 z hMz).run E2' _ (fun d2 M' k w F3 H3 E3 f3 r3 => ?_) fun C M' k => absurd k (hx z C M')
  obtain ⟨c0, c1⟩ := hp z d2 M' hMz k
  obtain ⟨b1, b2, b3, b4⟩ := E3.st z _ c0
  cases b4 with
  | dic kn kr =>
    rename_i kvs0
    have hk0 : kvs0 = [] := by
      cases kvs0 with
      | nil => rfl
      | cons a l => cases kn
    subst hk0
    unfold tPairs
    refine ⟨b3, [(.inr k1, v), (.inr k2, w)], rfl, by show 2 ≤ 15; decide, ?_⟩
    have hm : mergeK [] [((.inr k1 : Key), v), (.inr k2, w)] = [(.inr k1, v), (.inr k2, w)] := mergeK_nodup (acc := []) (by
      show [(Sum.inr k1 : Key), .inr k2].Nodup
      refine List.nodup_cons.mpr ⟨fun h => ?_, List.nodup_cons.mpr ⟨(fun h => nomatch h), List.nodup_nil⟩⟩
      exact hk (Sum.inr.inj (List.mem_singleton.mp h)))
    rw [hm]
    have E4 := E3.less (M1 := lessM M' z) fun a n h => by
      by_cases ha : a = z
      · subst ha
        unfold lessM at h
        rw [if_pos rfl] at h
        cases h
      · rw [lessM_ne ha] at h
        exact h
    have hMz4 : lessM M' z z = none := if_pos rfl
    have h0z := E3.h0 z _ c0
    have how : ∀ (i : Nat) (w : Ow), G[i]? = some (.own w) → σ[i]? ≠ some (some (.ref z)) := fun i w hi hs => by
      have := E3.ow i w z hi hs
      rw [c0] at this
      cases this
    have E5 := E4.aside (o := .dK [(.inr k1, v), (.inr k2, w)]) b1 h0z hMz4 how
    have eD : Ex F3 (upd F3 z (.dK [(.inr k1, v), (.inr k2, w)])) := Ex.new b1
    exact q _ _ c1 (.ref z) _ _ (E5.addF b1 upd_same h0z hMz4 how) ((f2.trans f3).trans eD) (.dic upd_same rfl (.cons ((r2.mono f3).mono eD) (.cons (r3.mono eD) .nil)))⟩
end
end Cy

set_option Elab.async false
set_option linter.all false
set_option maxRecDepth 100000
set_option maxHeartbeats 4000000
namespace Cy
open PySem PySem.Spec PyProof.Rows L2 Evl
/-! text * 0, text * 1 -/
def rRepS : R2 := fun x y H Q => ∃ z k, x = .str z ∧ y = .int k ∧ (k = 0 ∨ k = 1) ∧ Q (.str (if k = 1 then z else Str.empty)) H
theorem op_repS {X : Cx} : OpR X (binaryOp .Mult) rRepS := by
  intro pins s σ H x y v u Q I rx ry h
  obtain ⟨z, k, rfl, rfl, hk, q⟩ := h
  obtain ⟨t, rfl⟩ := rx
  obtain ⟨t', rfl⟩ := ry
  have e : Txt.mul z k = if k = 1 then z else Str.empty := by
    rcases hk with rfl | rfl
    · rfl
    · rfl
  refine SB.mul ?_ fun t2 tk => ⟨.str (if k = 1 then z else Str.empty), H, I.tok _, ⟨_, by rw [e]⟩, q⟩
  rcases hk with rfl | rfl
  · exact ⟨by decide, fun h => absurd (by decide : (0 : Int) < 1) h, fun h => absurd (by decide : (0 : Int) < 1) h⟩
  · exact ⟨by decide, fun _ h => by simp at h, fun _ h => by simp at h⟩
def gMulS : R2 := orR gMul rRepS
theorem op_gMulS {X : Cx} : OpR X (binaryOp .Mult) gMulS := op_gMul.or op_repS
theorem d_repS {K : PySem.W.Frag} {z : Str} {k : Int} (h : k = 0 ∨ k = 1) : Op2 K gMulS (.str z) (.int k) (.str (if k = 1 then z else Str.empty)) := op2_r (op2_v fun {F H x y} e r1 r2 => ⟨.str _, .str _, fun Q q => ⟨z, k, rp_str r1, rp_int r2, h, q⟩⟩)
end Cy

set_option Elab.async false
set_option linter.all false
set_option maxRecDepth 100000
set_option maxHeartbeats 4000000
namespace Wp
open PySem PySem.Spec PyProof.Rows L2 Evl Cy
/-! what an order leaves, said of the store and the slots -/
abbrev WE := Sto → List Sl → (D → Sto → Prop) → (Addr → Sto → Prop) → Prop
abbrev WA := Sto → List Sl → (List D → Sto → Prop) → (Addr → Sto → Prop) → Prop
abbrev WT := Sto → List Sl → (Bool → Sto → Prop) → (Addr → Sto → Prop) → Prop
inductive Ot where
  | nx (G : List Sl)
  | rt (d : D)
  | ex (C : Addr) (G : List Sl)
  | bk (G : List Sl)
  | ct (G : List Sl)
abbrev WS := Sto → List Sl → (Ot → Sto → Prop) → Prop
abbrev FX := L2.St → XK
section
variable {K : PySem.W.Frag} {H0 F0 F F' H H' : Hp} {M M' : Sto} {σ : L2.St} {G G' : List Sl}
theorem alloc (E : EnM K H0 F0 F M H σ G) {p : Addr} (hp : H p = none) {o : HO} {n : Nd} (r : BearN K F o n) : EnM K H0 F0 F (updM M p n) (upd H p o) σ G := by
  have E1 : EnM K H0 F0 F M (upd H p o) σ G := E.grow (Ex.refl F) (Ex.new hp) (E.en.ef.trans (Ex.new hp)) (Nw.refl F H)
  refine E1.new upd_same (ex_none E.en.ef hp) (ex_none E.en.e0 hp) (E.freeO hp) r
theorem frozen (E : EnM K H0 F0 F M H σ G) {p : Addr} (hp : H p = none) (o : HO) : EnM K H0 F0 (upd F p o) M (upd H p o) σ G ∧ Ex F (upd F p o) := by
  have hF := ex_none E.en.ef hp
  exact ⟨E.grow (Ex.new hF) (Ex.new hp) (ex_upd_both E.en.ef) (nw_upd hp (Nw.refl F H)), Ex.new hF⟩
structure SE (K : PySem.W.Frag) (te : FX → TE) (w : WE) : Prop where
  run : ∀ {M : Sto} {G : List Sl} {P : D → Sto → Prop} {R : Addr → Sto → Prop}, w M G P R → ∀ {H0 F0 F H : Hp} {σ : L2.St}, EnM K H0 F0 F M H σ G → ∀ (X : FX) (Q : VK),
    (∀ d M', P d M' → ∀ v F' H', EnM K H0 F0 F' M' H' σ G → Ex F F' → Rp K F' v d → Q v H') → (∀ C M', R C M' → ∀ F' H', EnM K H0 F0 F' M' H' σ G → Ex F F' → X σ (.ref C) none H') → te X σ H Q
structure SA (K : PySem.W.Frag) (ta : FX → TA) (w : WA) : Prop where
  run : ∀ {M : Sto} {G : List Sl} {P : List D → Sto → Prop} {R : Addr → Sto → Prop}, w M G P R → ∀ {H0 F0 F H : Hp} {σ : L2.St}, EnM K H0 F0 F M H σ G → ∀ (X : FX) (Q : List V → Hp → Prop),
    (∀ d M', P d M' → ∀ v F' H', EnM K H0 F0 F' M' H' σ G → Ex F F' → RpA K F' v d → Q v H') → (∀ C M', R C M' → ∀ F' H', EnM K H0 F0 F' M' H' σ G → Ex F F' → X σ (.ref C) none H') → ta X σ H Q
structure ST (K : PySem.W.Frag) (tt : FX → TT) (w : WT) : Prop where
  run : ∀ {M : Sto} {G : List Sl} {P : Bool → Sto → Prop} {R : Addr → Sto → Prop}, w M G P R → ∀ {H0 F0 F H : Hp} {σ : L2.St}, EnM K H0 F0 F M H σ G → ∀ (X : FX) (Q : Bool → Hp → Prop),
    (∀ d M', P d M' → ∀ F' H', EnM K H0 F0 F' M' H' σ G → Ex F F' → Q d H') → (∀ C M', R C M' → ∀ F' H', EnM K H0 F0 F' M' H' σ G → Ex F F' → X σ (.ref C) none H') → tt X σ H Q
def PostW (K : PySem.W.Frag) (H0 F0 F : Hp) (o : Ot) (M : Sto) (X : FX) (D : Ends) : Prop := match o with
  | .nx G => ∀ σ F' H', EnM K H0 F0 F' M H' σ G → Ex F F' → D.nx σ H'
  | .bk G => ∀ σ F' H', EnM K H0 F0 F' M H' σ G → Ex F F' → D.bk σ H'
  | .ct G => ∀ σ F' H', EnM K H0 F0 F' M H' σ G → Ex F F' → D.ct σ H'
  | .rt d => ∀ v F' H', RoM K H0 F0 F' M H' → Ex F F' → Rp K F' v d → D.rt v H'
  | .ex C G => ∀ σ F' H', EnM K H0 F0 F' M H' σ G → Ex F F' → X σ (.ref C) none H'
structure SS (K : PySem.W.Frag) (ts : FX → TS) (w : WS) : Prop where
  run : ∀ {M : Sto} {G : List Sl} {P : Ot → Sto → Prop}, w M G P → ∀ {H0 F0 F H : Hp} {σ : L2.St}, EnM K H0 F0 F M H σ G → ∀ (X : FX) (D : Ends), (∀ o M', P o M' → PostW K H0 F0 F o M' X D) → ts X D σ H
theorem PostW.weak {F1 : Hp} {X : FX} {D : Ends} {o : Ot} (h : PostW K H0 F0 F o M X D) (f : Ex F F1) : PostW K H0 F0 F1 o M X D := by
  cases o with
  | nx G => exact fun σ F' H' E g => h σ F' H' E (f.trans g)
  | bk G => exact fun σ F' H' E g => h σ F' H' E (f.trans g)
  | ct G => exact fun σ F' H' E g => h σ F' H' E (f.trans g)
  | rt d => exact fun v F' H' ro g r => h v F' H' ro (f.trans g) r
  | ex C G => exact fun σ F' H' E g => h σ F' H' E (f.trans g)
structure BE (K : PySem.W.Frag) where
  t : FX → TE
  w : WE
  ok : SE K t w
structure BA (K : PySem.W.Frag) where
  t : FX → TA
  w : WA
  ok : SA K t w
structure BT (K : PySem.W.Frag) where
  t : FX → TT
  w : WT
  ok : ST K t w
structure BS (K : PySem.W.Frag) where
  t : FX → TS
  w : WS
  ok : SS K t w
end
/-! names and constants -/
def slK : Option Sl → (D → Sto → Prop) → Sto → Prop
  | some (.dat d), P, M => P d M
  | _, _, _ => False
def wVar (i : Nat) : WE := fun M G P _ => slK G[i]? P M
def wC (d : D) : WE := fun M _ P _ => P d M
section
variable {K : PySem.W.Frag}
def bVar (i : Nat) : BE K := ⟨fun _ => tVar i, wVar i, ⟨fun {M G P R} h {H0 F0 F H σ} E X Q q qx => by
  unfold wVar at h
  cases z : G[i]? with
  | none => rw [z] at h; exact h.elim
  | some s =>
    rw [z] at h
    cases s with
    | dat d =>
      obtain ⟨v, h1, h2⟩ := E.en.dat i d z
      exact ⟨v, h1, q d M h v F H E (Ex.refl F) h2⟩
    | no => exact h.elim
    | own w => exact h.elim⟩⟩
def bC (v : V) (d : D) (h : ∀ F, Rp K F v d) : BE K := ⟨fun _ => tC v, wC d, ⟨fun {M G P R} k {H0 F0 F H σ} E X Q q qx => q d M k v F H E (Ex.refl F) (h F)⟩⟩
def bInt (i : Int) : BE K := bC (.int i) (.int i) fun _ => .int i
def bStr (i : Str) : BE K := bC (.str i) (.str i) fun _ => .str i
def bBl (i : Bool) : BE K := bC (.bl i) (.bl i) fun _ => .bl i
def bNon : BE K := bC .non .non fun _ => .non
end
/-! operations on two things -/
/-- how an operation's own rule is said of data: what it gives, under which conditions -/
abbrev FO := D → D → (D → Prop) → Prop
structure SO (K : PySem.W.Frag) (r : R2) (f : FO) : Prop where
  run : ∀ {a b : D} {k : D → Prop}, f a b k → ∃ c, Op2 K r a b c ∧ k c ∧ flD c = true
def seeN (f : D → D) (a : Addr) : Option Nd → D
  | some (.lst l) => .lst (l.map f)
  | some (.dic es) => .dic (es.map fun p => (p.1, f p.2))
  | some (.ins C fs) => .obj C (fs.map fun p => (p.1, f p.2))
  | _ => .ptr a
def seeP (g : Addr → D) : D → D
  | .ptr a => g a
  | d => d
def seeD : Nat → Sto → D → D
  | 0, _, d => d
  | n + 1, M, d => seeP (fun a => seeN (seeD n M) a (M a)) d
def see (M : Sto) (d : D) : D := seeD 9 M d
theorem see_va {M : Sto} {f : D → D} (h : ∀ d, VwD M d (f d)) : ∀ l : List D, VwA M l (l.map f)
  | [] => .nil
  | d :: l => .cons (h d) (see_va h l)
theorem see_vk {α : Type} {M : Sto} {f : D → D} (h : ∀ d, VwD M d (f d)) : ∀ l : List (α × D), VwA M (l.map fun p => p.2) ((l.map fun p => (p.1, f p.2)).map fun p => p.2)
  | [] => .nil
  | d :: l => .cons (h d.2) (see_vk h l)
theorem fst_map {α : Type} {f : D → D} (l : List (α × D)) : l.map (fun p => p.1) = (l.map fun p => (p.1, f p.2)).map fun p => p.1 := by
  rw [List.map_map]
  rfl
theorem see_vw : ∀ (n : Nat) (M : Sto) (d : D), VwD M d (seeD n M d)
  | 0, _, _ => .same _
  | n + 1, M, d => by
    cases d with
    | ptr a =>
      show VwD M (.ptr a) (seeN (seeD n M) a (M a))
      cases h : M a with
      | none => exact .same _
      | some nd =>
        cases nd with
        | lst l => exact .plst h (see_va (see_vw n M) l)
        | dic es => exact .pdic h (fst_map es) (see_vk (see_vw n M) es)
        | ins C fs => exact .pins h (fst_map fs) (see_vk (see_vw n M) fs)
        | dicL _ _ _ => exact .same _
        | tb _ => exact .same _
    | _ => exact .same _
section
variable {K : PySem.W.Frag} {H0 F0 F F' H H' : Hp} {M M' : Sto} {σ : L2.St} {G G' : List Sl}
theorem see_rp (E : EnM K H0 F0 F M H σ G) {v : V} {d : D} (r : Rp K F v d) : Rp K (seen M F H) v (see M d) := VwD.rp E.st (see_vw 9 M d) r
theorem see_rpA (E : EnM K H0 F0 F M H σ G) {v : List V} {d : List D} (r : RpA K F v d) : RpA K (seen M F H) v (d.map (see M)) := VwA.rp E.st (see_va (see_vw 9 M) d) r
theorem seen_ex (E : EnM K H0 F0 F M H σ G) : Ex (seen M F H) H := fun a o h => by
  cases z : M a with
  | none => rw [seen_none z] at h; exact E.en.ef a o h
  | some n => rw [seen_some z] at h; exact h
/-- what was done with things seen, and leaves no thing seen -/
theorem unsee (E : EnM K H0 F0 F M H σ G) {F2 H2 : Hp} (f : Ex (seen M F H) F2) (e : Ex F2 H2) (g : Ex H H2) (n : Nw (seen M F H) F2 H) : EnM K H0 F0 (unseen M F2) M H2 σ G ∧ Ex F (unseen M F2) ∧ ∀ a xs, F2 a = some (.tup xs) → M a = none := by
  have E1 : Cy.En K H0 F0 (seen M F H) H σ G := E.view (by
    have : ∀ G : List Sl, VwG M G G := fun G => by
      induction G with
      | nil => exact .nil
      | cons s G ih => exact .keep ih
    exact this G)
  obtain ⟨B, b1, b2, b3⟩ := E.back (E1.grow f g e n) f g n
  exact ⟨B, b1, b3⟩
end
def atM (P : D → Sto → Prop) (M : Sto) : D → Prop := fun r => P r M
def opK2 (f : FO) (P : D → Sto → Prop) (d : D) : D → Sto → Prop := fun c M => f (see M d) (see M c) (atM P M)
def opK1 (f : FO) (b : WE) (G : List Sl) (P : D → Sto → Prop) (R : Addr → Sto → Prop) : D → Sto → Prop := fun d M => b M G (opK2 f P d) R
def wOp (f : FO) (a b : WE) : WE := fun M G P R => a M G (opK1 f b G P R) R
section
variable {K : PySem.W.Frag}
def bOp {r : R2} {f : FO} (h : SO K r f) (a b : BE K) : BE K := ⟨fun X => tOp r (a.t X) (b.t X), wOp f a.w b.w, ⟨fun {M G P R} k {H0 F0 F H σ} E X Q q qx =>
  a.ok.run k E X _ (fun d M1 k1 v F1 H1 E1 f1 r1 => b.ok.run k1 E1 X _ (fun c M2 k2 w F2 H2 E2 f2 r2 => by
    obtain ⟨z, o, kz, hz⟩ := h.run k2
    exact o.run (seen_ex E2) (see_rp E2 (r1.mono f2)) (see_rp E2 r2) Q fun u F3 H3 f3 e3 g3 n3 r3 => by
      obtain ⟨B, b1, b3⟩ := unsee E2 f3 e3 g3 n3
      exact q z M2 kz u _ H3 B ((f1.trans f2).trans b1) (Rp.off b3 r3 hz)) fun C M' z F2 H2 E2 f2 => qx C M' z F2 H2 E2 (f1.trans f2)) fun C M' z F1 H1 E1 f1 => qx C M' z F1 H1 E1 f1⟩⟩
/-! the operations -/
def fAdd : FO
  | .int i, .int j, k => k (.int (i + j))
  | .str i, .str j, k => i.length + j.length ≤ 100000 ∧ k (.str (i ++ j))
  | _, _, _ => False
theorem oAdd : SO K (gAdd K) fAdd := ⟨fun {a b k} h => by
  cases a <;> cases b <;> first | exact h.elim | skip
  · exact ⟨_, d_addI, h, rfl⟩
  · exact ⟨_, d_addS h.1, h.2, rfl⟩⟩
def fSub : FO
  | .int i, .int j, k => k (.int (i - j))
  | _, _, _ => False
theorem oSub : SO K gSub fSub := ⟨fun {a b k} h => by
  cases a <;> cases b <;> first | exact h.elim | skip
  exact ⟨_, d_subI, h, rfl⟩⟩
def fMul : FO
  | .int i, .int j, k => CMul i j ∧ k (.int (i * j))
  | _, _, _ => False
theorem oMul : SO K gMul fMul := ⟨fun {a b k} h => by
  cases a <;> cases b <;> first | exact h.elim | skip
  exact ⟨_, d_mulI h.1, h.2, rfl⟩⟩
def fFdv : FO
  | .int i, .int j, k => (0 < j ∧ j < 115792089237316195423570985008687907853269984665640564039457584007913129639936) ∧ k (.int (i / j))
  | _, _, _ => False
def fMod : FO
  | .int i, .int j, k => 0 < j ∧ k (.int (i % j))
  | _, _, _ => False
theorem oMod : SO K gMod fMod := ⟨fun {a b k} h => by
  cases a <;> cases b <;> first | exact h.elim | skip
  exact ⟨_, d_mod h.1, h.2, rfl⟩⟩
theorem oFdv : SO K gFdv fFdv := ⟨fun {a b k} h => by
  cases a <;> cases b <;> first | exact h.elim | skip
  exact ⟨_, d_fdv h.1.1 h.1.2, h.2, rfl⟩⟩
def fPow : FO
  | .int i, .int j, k => CPow i j ∧ k (.int (i ^ j.toNat))
  | _, _, _ => False
theorem oPow : SO K gPow fPow := ⟨fun {a b k} h => by
  cases a <;> cases b <;> first | exact h.elim | skip
  exact ⟨_, d_pow h.1, h.2, rfl⟩⟩
def fLt : FO
  | .int i, .int j, k => k (.bl (decide (i < j)))
  | .str i, .str j, k => k (.bl (decide (i.cps.toList < j.cps.toList)))
  | _, _, _ => False
theorem oLt : SO K gLt fLt := ⟨fun {a b k} h => by
  cases a <;> cases b <;> first | exact h.elim | skip
  · exact ⟨_, d_ltI, h, rfl⟩
  · exact ⟨_, d_ltS, h, rfl⟩⟩
def fLe : FO
  | .int i, .int j, k => k (.bl (decide (i ≤ j)))
  | .str i, .str j, k => k (.bl (!decide (j.cps.toList < i.cps.toList)))
  | _, _, _ => False
theorem oLe : SO K gLe fLe := ⟨fun {a b k} h => by
  cases a <;> cases b <;> first | exact h.elim | skip
  · exact ⟨_, d_leI, h, rfl⟩
  · exact ⟨_, d_leS, h, rfl⟩⟩
def fGt : FO
  | .int i, .int j, k => k (.bl (decide (j < i)))
  | _, _, _ => False
theorem oGt : SO K gGt fGt := ⟨fun {a b k} h => by
  cases a <;> cases b <;> first | exact h.elim | skip
  exact ⟨_, d_gtI, h, rfl⟩⟩
def fGe : FO
  | .int i, .int j, k => k (.bl (decide (j ≤ i)))
  | _, _, _ => False
theorem oGe : SO K gGe fGe := ⟨fun {a b k} h => by
  cases a <;> cases b <;> first | exact h.elim | skip
  exact ⟨_, d_geI, h, rfl⟩⟩
def fEq : FO
  | .int i, .int j, k => k (.bl (decide (i = j)))
  | .str i, .str j, k => k (.bl (decide (i = j)))
  | a, b, k => okEq a = true ∧ okEq b = true ∧ k (.bl (eqD a b))
theorem oEq : SO K (gEq K) fEq := ⟨fun {a b k} h => by
  unfold fEq at h
  split at h
  · exact ⟨_, d_eqI, h, rfl⟩
  · exact ⟨_, d_eqS, h, rfl⟩
  · exact ⟨_, d_eqD h.1 h.2.1, h.2.2, rfl⟩⟩
def fNe : FO
  | .int i, .int j, k => k (.bl (!decide (i = j)))
  | .str i, .str j, k => k (.bl (!decide (i = j)))
  | a, b, k => okEq a = true ∧ okEq b = true ∧ k (.bl (!eqD a b))
theorem oNe : SO K (gNe K) fNe := ⟨fun {a b k} h => by
  unfold fNe at h
  split at h
  · exact ⟨_, d_neI, h, rfl⟩
  · exact ⟨_, d_neS, h, rfl⟩
  · exact ⟨_, d_neD h.1 h.2.1, h.2.2, rfl⟩⟩
/-- is None, is True -/
def fIs : FO
  | d, .non, k => k (.bl (isNon d))
  | .bl a, .bl b, k => k (.bl (decide (a = b)))
  | _, _, _ => False
theorem oIs : SO K gIs fIs := ⟨fun {a b k} h => by
  unfold fIs at h
  split at h
  · exact ⟨_, d_isN, h, rfl⟩
  · exact ⟨_, d_isB, h, rfl⟩
  · exact h.elim⟩
def fIsn : FO
  | d, .non, k => k (.bl (!isNon d))
  | _, _, _ => False
theorem oIsn : SO K gIn2 fIsn := ⟨fun {a b k} h => by
  unfold fIsn at h
  split at h
  · exact ⟨_, d_niN, h, rfl⟩
  · exact h.elim⟩
end
end Wp

set_option Elab.async false
set_option linter.all false
set_option maxRecDepth 100000
set_option maxHeartbeats 4000000
namespace Wp
open PySem PySem.Spec PyProof.Rows L2 Evl Cy
section
variable {K : PySem.W.Frag} {H0 F0 F F' H H' : Hp} {M M' : Sto} {σ : L2.St} {G G' : List Sl}
def dl (M : Sto) : D → Option (List D)
  | .lst l => some l
  | .ptr p => match M p with
    | some (.lst l) => some l
    | _ => none
  | _ => none
theorem dl_at (E : EnM K H0 F0 F M H σ G) {v : V} {d : D} {l : List D} (r : Rp K F v d) (h : dl M d = some l) : ∃ a xs, v = .ref a ∧ H a = some (.lst xs) ∧ RpA K F xs l := by
  cases d with
  | lst m =>
    cases h
    cases r with
    | lst h1 h2 => exact ⟨_, _, rfl, E.en.ef _ _ h1, h2⟩
  | ptr p =>
    have h' : (match M p with
      | some (.lst l) => some l
      | _ => none) = some l := h
    cases r
    cases z : M p with
    | none => rw [z] at h'; cases h'
    | some n =>
      rw [z] at h'
      cases n with
      | lst m =>
        cases h'
        obtain ⟨_, o, h1, h2⟩ := E.st p _ z
        cases h2 with
        | lst h3 => exact ⟨p, _, rfl, h1, h3⟩
      | _ => cases h'
  | _ => cases h
def dq (M : Sto) : D → Option (List D)
  | .scr ns => some (ns.map D.int)
  | d => dl M d
theorem dq_at (E : EnM K H0 F0 F M H σ G) {v : V} {d : D} {l : List D} (r : Rp K F v d) (h : dq M d = some l) : ∃ a xs, v = .ref a ∧ SqL K H a xs ∧ RpA K F xs l := by
  cases d with
  | scr ns =>
    cases h
    cases r with
    | scr h1 => exact ⟨_, _, rfl, ex_l E.en.ef h1, RpA.ofInts ns⟩
  | _ =>
    obtain ⟨a, xs, h1, h2, h3⟩ := dl_at E r h
    exact ⟨a, xs, h1, sq_of h2, h3⟩
def dt : D → Option (List D)
  | .tup l => some l
  | _ => none
theorem dt_at (E : EnM K H0 F0 F M H σ G) {v : V} {d : D} {l : List D} (r : Rp K F v d) (h : dt d = some l) : ∃ a xs, v = .ref a ∧ SqT K H a xs ∧ RpA K F xs l := by
  cases d with
  | tup m =>
    cases h
    cases r with
    | tup h1 h2 => exact ⟨_, _, rfl, st_of (E.en.ef _ _ h1), h2⟩
  | _ => cases h
/-- a dict: its pairs -/
def dd (M : Sto) : D → Option (List (Key × D))
  | .dic es => some es
  | .ptr p => match M p with
    | some (.dic es) => some es
    | some (.dicL _ _ es) => some es
    | _ => none
  | _ => none
theorem dd_at (E : EnM K H0 F0 F M H σ G) {v : V} {d : D} {es : List (Key × D)} (r : Rp K F v d) (h : dd M d = some es) : ∃ a kvs, v = .ref a ∧ Rd H a (.dK kvs) ∧ kvs.map (fun p => p.1) = es.map (fun p => p.1) ∧ RpA K F (kvs.map fun p => p.2) (es.map fun p => p.2) := by
  cases d with
  | dic m =>
    cases h
    cases r with
    | dic h1 h2 h3 => exact ⟨_, _, rfl, .of (E.en.ef _ _ h1), h2, h3⟩
  | ptr p =>
    have h' : (match M p with
      | some (.dic es) => some es
      | some (.dicL _ _ es) => some es
      | _ => none) = some es := h
    cases r
    cases z : M p with
    | none => rw [z] at h'; cases h'
    | some n =>
      rw [z] at h'
      cases n with
      | dic m =>
        cases h'
        obtain ⟨_, o, h1, h2⟩ := E.st p _ z
        cases h2 with
        | dic h3 h4 => exact ⟨p, _, rfl, .of h1, h3, h4⟩
      | dicL od kvs m =>
        cases h'
        obtain ⟨_, o, h1, h2⟩ := E.st p _ z
        cases h2 with
        | dicL h3 h4 => exact ⟨p, _, rfl, .inr ⟨_, h1⟩, h3, h4⟩
      | _ => cases h'
  | _ => cases h
/-- a thing of the class C: its fields -/
def df (M : Sto) (C : Addr) : D → (List (Str × D) → Prop) → Prop
  | .obj C' fs, k => C' = C ∧ k fs
  | .ptr p, k => match M p with
    | some (.ins C' fs) => C' = C ∧ k fs
    | _ => False
  | _, _ => False
theorem df_at (E : EnM K H0 F0 F M H σ G) {C : Addr} {v : V} {d : D} {k : List (Str × D) → Prop} (r : Rp K F v d) (h : df M C d k) : ∃ a dx gs fs, v = .ref a ∧ H a = some (.ins C dx gs) ∧ gs.map (fun p => p.1) = fs.map (fun p => p.1) ∧ RpA K F (gs.map fun p => p.2) (fs.map fun p => p.2) ∧ k fs := by
  cases d with
  | obj C' fs =>
    obtain ⟨rfl, h⟩ := h
    cases r with
    | obj h1 h2 h3 => exact ⟨_, _, _, fs, rfl, E.en.ef _ _ h1, h2, h3, h⟩
  | ptr p =>
    have h' : (match M p with
    | some (.ins C' fs) => C' = C ∧ k fs
    | _ => False) := h
    cases r
    cases z : M p with
    | none => rw [z] at h'; exact h'.elim
    | some n =>
      rw [z] at h'
      cases n with
      | ins C' fs =>
        obtain ⟨rfl, h'⟩ := h'
        obtain ⟨_, o, h1, h2⟩ := E.st p _ z
        cases h2 with
        | ins h3 h4 => exact ⟨p, _, _, fs, rfl, h1, h3, h4, h'⟩
      | _ => exact h'.elim
  | _ => exact h.elim
end
/-! + and * of lists, too -/
def catK (P : D → Sto → Prop) (M : Sto) : Option (List D) → Option (List D) → Prop
  | some l, some m => l.length + m.length ≤ 100000 ∧ P (.lst (l ++ m)) M
  | _, _ => False
def mAdd (P : D → Sto → Prop) (M : Sto) : D → D → Prop
  | .int i, .int j => P (.int (i + j)) M
  | .str i, .str j => i.length + j.length ≤ 100000 ∧ P (.str (i ++ j)) M
  | a, b => catK P M (dl M a) (dl M b)
def addK2 (P : D → Sto → Prop) (d : D) : D → Sto → Prop := fun c M => mAdd P M d c
def addK1 (b : WE) (G : List Sl) (P : D → Sto → Prop) (R : Addr → Sto → Prop) : D → Sto → Prop := fun d M => b M G (addK2 P d) R
def wAdd (a b : WE) : WE := fun M G P R => a M G (addK1 b G P R) R
def repK (P : D → Sto → Prop) (M : Sto) (n : Int) : Option (List D) → Prop
  | some l => (0 ≤ n ∧ n < 1000000 ∧ l.length * n.toNat ≤ 100000) ∧ P (.lst (List.replicate n.toNat l).flatten) M
  | _ => False
def mMul (P : D → Sto → Prop) (M : Sto) : D → D → Prop
  | .int i, .int j => CMul i j ∧ P (.int (i * j)) M
  | a, .int j => repK P M j (dl M a)
  | _, _ => False
def mulK2 (P : D → Sto → Prop) (d : D) : D → Sto → Prop := fun c M => mMul P M d c
def mulK1 (b : WE) (G : List Sl) (P : D → Sto → Prop) (R : Addr → Sto → Prop) : D → Sto → Prop := fun d M => b M G (mulK2 P d) R
def wMul (a b : WE) : WE := fun M G P R => a M G (mulK1 b G P R) R
section
variable {K : PySem.W.Frag}
theorem catK_ok {H0 F0 F H : Hp} {M : Sto} {σ : L2.St} {G : List Sl} {P : D → Sto → Prop} {x y : V} {a b : D} {Q : VK} (E : EnM K H0 F0 F M H σ G) (r1 : Rp K F x a) (r2 : Rp K F y b) (h : catK P M (dl M a) (dl M b))
    (q : ∀ d M', P d M' → ∀ v F' H', EnM K H0 F0 F' M' H' σ G → Ex F F' → Rp K F' v d → Q v H') : gAdd K x y H Q := by
  cases ha : dl M a with
  | none => rw [ha] at h; exact h.elim
  | some l =>
    cases hb : dl M b with
    | none => rw [ha, hb] at h; exact h.elim
    | some m =>
      rw [ha, hb] at h
      obtain ⟨_, xs, rfl, h1, h2⟩ := dl_at E r1 ha
      obtain ⟨_, ys, rfl, h3, h4⟩ := dl_at E r2 hb
      refine Or.inr (Or.inr ⟨_, _, _, _, rfl, rfl, h1, h3, sz_of (by rw [h2.length, h4.length]; exact h.1), fun p hp => ?_⟩)
      obtain ⟨E2, e2⟩ := frozen E hp (.lst (xs ++ ys))
      exact q _ _ h.2 _ _ _ E2 e2 (.lst upd_same ((h2.app h4).mono e2))
def bAdd (a b : BE K) : BE K := ⟨fun X => tOp (gAdd K) (a.t X) (b.t X), wAdd a.w b.w, ⟨fun {M G P R} k {H0 F0 F H σ} E X Q q qx =>
  a.ok.run k E X _ (fun d M1 k1 v F1 H1 E1 f1 r1 => b.ok.run k1 E1 X _ (fun c M2 k2 w F2 H2 E2 f2 r2 => by
    have r1' := r1.mono f2
    have q' : ∀ d M', P d M' → ∀ v F' H', EnM K H0 F0 F' M' H' σ G → Ex F2 F' → Rp K F' v d → Q v H' := fun d M' z v F' H' E' f' r' => q d M' z v F' H' E' ((f1.trans f2).trans f') r'
    have k2' : mAdd P M2 d c := k2
    unfold mAdd at k2'
    split at k2'
    · exact d_addI.run (F := F2) E2.en.ef r1' r2 Q fun u F3 H3 f3 e3 g3 n3 r3 => q' _ M2 k2' u F3 H3 (E2.grow f3 g3 e3 n3) f3 r3
    · exact (d_addS k2'.1).run (F := F2) E2.en.ef r1' r2 Q fun u F3 H3 f3 e3 g3 n3 r3 => q' _ M2 k2'.2 u F3 H3 (E2.grow f3 g3 e3 n3) f3 r3
    · exact catK_ok E2 r1' r2 k2' q') fun C M' z F2 H2 E2 f2 => qx C M' z F2 H2 E2 (f1.trans f2)) fun C M' z F1 H1 E1 f1 => qx C M' z F1 H1 E1 f1⟩⟩
def bMul (a b : BE K) : BE K := ⟨fun X => tOp gMul (a.t X) (b.t X), wMul a.w b.w, ⟨fun {M G P R} k {H0 F0 F H σ} E X Q q qx =>
  a.ok.run k E X _ (fun d M1 k1 v F1 H1 E1 f1 r1 => b.ok.run k1 E1 X _ (fun c M2 k2 w F2 H2 E2 f2 r2 => by
    have r1' := r1.mono f2
    have q' : ∀ d M', P d M' → ∀ v F' H', EnM K H0 F0 F' M' H' σ G → Ex F2 F' → Rp K F' v d → Q v H' := fun d M' z v F' H' E' f' r' => q d M' z v F' H' E' ((f1.trans f2).trans f') r'
    have k2' : mMul P M2 d c := k2
    unfold mMul at k2'
    split at k2'
    · exact (d_mulI (K := K) k2'.1).run (F := F2) E2.en.ef r1' r2 Q fun u F3 H3 f3 e3 g3 n3 r3 => q' _ M2 k2'.2 u F3 H3 (E2.grow f3 g3 e3 n3) f3 r3
    · rename_i a' j hne
      cases ha : dl M2 d with
      | none => rw [ha] at k2'; exact k2'.elim
      | some l =>
        rw [ha] at k2'
        obtain ⟨⟨n0, n1, n2⟩, k3⟩ := k2'
        obtain ⟨_, xs, rfl, h1, h2⟩ := dl_at E2 r1' ha
        cases r2
        refine Or.inr ⟨_, j, _, rfl, rfl, h1, by omega, by omega, sz_of (by rw [h2.length]; exact n2), fun p hp => ?_⟩
        obtain ⟨E3, e3⟩ := frozen E2 hp (.lst (List.replicate j.toNat xs).flatten)
        exact q' _ _ k3 _ _ _ E3 e3 (.lst upd_same ((rpa_rep h2 j.toNat).mono e3))
    · exact k2'.elim) fun C M' z F2 H2 E2 f2 => qx C M' z F2 H2 E2 (f1.trans f2)) fun C M' z F1 H1 E1 f1 => qx C M' z F1 H1 E1 f1⟩⟩
end
/-! words between truths, on values -/
def negK (P : D → Sto → Prop) : D → Sto → Prop
  | .int i, M => P (.int (-i)) M
  | _, _ => False
def wNeg (a : WE) : WE := fun M G P R => a M G (negK P) R
def notK (P : D → Sto → Prop) : D → Sto → Prop
  | .bl x, M => P (.bl (!x)) M
  | _, _ => False
def wNotV (a : WE) : WE := fun M G P R => a M G (notK P) R
def andK (b : WE) (G : List Sl) (P : D → Sto → Prop) (R : Addr → Sto → Prop) : D → Sto → Prop
  | .bl x, M => if x = true then b M G P R else P (.bl false) M
  | _, _ => False
def wAndV (a b : WE) : WE := fun M G P R => a M G (andK b G P R) R
def orK (b : WE) (G : List Sl) (P : D → Sto → Prop) (R : Addr → Sto → Prop) : D → Sto → Prop
  | .bl x, M => if x = true then P (.bl true) M else b M G P R
  | _, _ => False
def wOrV (a b : WE) : WE := fun M G P R => a M G (orK b G P R) R
def iteK (a b : WE) (G : List Sl) (P : D → Sto → Prop) (R : Addr → Sto → Prop) : Bool → Sto → Prop := fun x M => if x = true then a M G P R else b M G P R
def wIte (t : WT) (a b : WE) : WE := fun M G P R => t M G (iteK a b G P R) R
def chK3 (c : WE) (f' : FO) (G : List Sl) (P : D → Sto → Prop) (R : Addr → Sto → Prop) (d2 : D) : D → Sto → Prop
  | .bl x, M => if x = true then c M G (opK2 f' P d2) R else P (.bl false) M
  | _, _ => False
def chK2 (f f' : FO) (c : WE) (G : List Sl) (P : D → Sto → Prop) (R : Addr → Sto → Prop) (d1 : D) : D → Sto → Prop := fun d2 M => f (see M d1) (see M d2) (atM (chK3 c f' G P R d2) M)
def chK1 (f f' : FO) (b c : WE) (G : List Sl) (P : D → Sto → Prop) (R : Addr → Sto → Prop) : D → Sto → Prop := fun d1 M => b M G (chK2 f f' c G P R d1) R
def wChain (f f' : FO) (a b c : WE) : WE := fun M G P R => a M G (chK1 f f' b c G P R) R
def isK (P : Bool → Sto → Prop) : D → Sto → Prop
  | .bl x, M => P x M
  | _, _ => False
def wTb (a : WE) : WT := fun M G P R => a M G (isK P) R
def noK (P : Bool → Sto → Prop) : Bool → Sto → Prop := fun x M => P (!x) M
def wNot (a : WT) : WT := fun M G P R => a M G (noK P) R
def anK (b : WT) (G : List Sl) (P : Bool → Sto → Prop) (R : Addr → Sto → Prop) : Bool → Sto → Prop := fun x M => if x = true then b M G P R else P false M
def wAnd (a b : WT) : WT := fun M G P R => a M G (anK b G P R) R
def orrK (b : WT) (G : List Sl) (P : Bool → Sto → Prop) (R : Addr → Sto → Prop) : Bool → Sto → Prop := fun x M => if x = true then P true M else b M G P R
def wOr (a b : WT) : WT := fun M G P R => a M G (orrK b G P R) R
def wYes : WT := fun M _ P _ => P true M
/-- does it stand as a truth: a list, a dict, a truth -/
def truK (P : Bool → Sto → Prop) : D → Sto → Prop := fun d M => match d with
  | .bl x => P x M
  | .non => P false M
  | .tup l => P (!l.isEmpty) M
  | d => match dl M d with
    | some l => P (!l.isEmpty) M
    | none => False
def wTru (a : WE) : WT := fun M G P R => a M G (truK P) R
section
variable {K : PySem.W.Frag}
def bNeg (a : BE K) : BE K := ⟨fun X => tUn (rU fun i => .int (-i)) (a.t X), wNeg a.w, ⟨fun {M G P R} k {H0 F0 F H σ} E X Q q qx =>
  a.ok.run k E X _ (fun d M1 k1 v F1 H1 E1 f1 r1 => by
    cases d with
    | int i => exact (op1_neg (K := K)).run (F := F1) E1.en.ef r1 Q fun u F3 H3 f3 e3 g3 n3 r3 => q _ M1 k1 u F3 H3 (E1.grow f3 g3 e3 n3) (f1.trans f3) r3
    | _ => exact k1.elim) qx⟩⟩
def bNotV (a : BE K) : BE K := ⟨fun X => tNotV (a.t X), wNotV a.w, ⟨fun {M G P R} k {H0 F0 F H σ} E X Q q qx =>
  a.ok.run k E X _ (fun d M1 k1 v F1 H1 E1 f1 r1 => by
    cases d with
    | bl x =>
      cases r1
      exact ⟨x, rfl, q _ M1 k1 _ F1 H1 E1 f1 (.bl _)⟩
    | _ => exact k1.elim) qx⟩⟩
def bAndV (a b : BE K) : BE K := ⟨fun X => tAndV (a.t X) (b.t X), wAndV a.w b.w, ⟨fun {M G P R} k {H0 F0 F H σ} E X Q q qx =>
  a.ok.run k E X _ (fun d M1 k1 v F1 H1 E1 f1 r1 => by
    cases d with
    | bl x =>
      cases r1
      have k1' : if x = true then b.w M1 G P R else P (.bl false) M1 := k1
      refine ⟨x, rfl, ?_⟩
      cases x with
      | true =>
        rw [if_pos rfl] at k1' ⊢
        exact b.ok.run k1' E1 X Q (fun d M' z v F' H' E' f' r' => q d M' z v F' H' E' (f1.trans f') r') fun C M' z F' H' E' f' => qx C M' z F' H' E' (f1.trans f')
      | false =>
        rw [if_neg Bool.false_ne_true] at k1' ⊢
        exact q _ M1 k1' _ F1 H1 E1 f1 (.bl _)
    | _ => exact k1.elim) qx⟩⟩
def bOrV (a b : BE K) : BE K := ⟨fun X => tOrV (a.t X) (b.t X), wOrV a.w b.w, ⟨fun {M G P R} k {H0 F0 F H σ} E X Q q qx =>
  a.ok.run k E X _ (fun d M1 k1 v F1 H1 E1 f1 r1 => by
    cases d with
    | bl x =>
      cases r1
      have k1' : if x = true then P (.bl true) M1 else b.w M1 G P R := k1
      refine ⟨x, rfl, ?_⟩
      cases x with
      | false =>
        rw [if_neg Bool.false_ne_true] at k1' ⊢
        exact b.ok.run k1' E1 X Q (fun d M' z v F' H' E' f' r' => q d M' z v F' H' E' (f1.trans f') r') fun C M' z F' H' E' f' => qx C M' z F' H' E' (f1.trans f')
      | true =>
        rw [if_pos rfl] at k1' ⊢
        exact q _ M1 k1' _ F1 H1 E1 f1 (.bl _)
    | _ => exact k1.elim) qx⟩⟩
def bIte (t : BT K) (a b : BE K) : BE K := ⟨fun X => tIf (t.t X) (a.t X) (b.t X), wIte t.w a.w b.w, ⟨fun {M G P R} k {H0 F0 F H σ} E X Q q qx =>
  t.ok.run k E X _ (fun x M1 k1 F1 H1 E1 f1 => by
    have k1' : if x = true then a.w M1 G P R else b.w M1 G P R := k1
    cases x with
    | true =>
      rw [if_pos rfl] at k1' ⊢
      exact a.ok.run k1' E1 X Q (fun d M' z v F' H' E' f' r' => q d M' z v F' H' E' (f1.trans f') r') fun C M' z F' H' E' f' => qx C M' z F' H' E' (f1.trans f')
    | false =>
      rw [if_neg Bool.false_ne_true] at k1' ⊢
      exact b.ok.run k1' E1 X Q (fun d M' z v F' H' E' f' r' => q d M' z v F' H' E' (f1.trans f') r') fun C M' z F' H' E' f' => qx C M' z F' H' E' (f1.trans f')) qx⟩⟩
def bChain {r r' : R2} {f f' : FO} (h : SO K r f) (h' : SO K r' f') (a b c : BE K) : BE K := ⟨fun X => tChain r r' (a.t X) (b.t X) (c.t X), wChain f f' a.w b.w c.w, ⟨fun {M G P R} k {H0 F0 F H σ} E X Q q qx =>
  a.ok.run k E X _ (fun d M1 k1 v F1 H1 E1 f1 r1 => b.ok.run k1 E1 X _ (fun c2 M2 k2 w F2 H2 E2 f2 r2 => by
    obtain ⟨z, o, kz, hz⟩ := h.run k2
    refine o.run (seen_ex E2) (see_rp E2 (r1.mono f2)) (see_rp E2 r2) _ fun u F3 H3 f3 e3 g3 n3 r3 => ?_
    obtain ⟨B, b1, b3⟩ := unsee E2 f3 e3 g3 n3
    cases z with
    | bl x =>
      cases r3
      have kz' : if x = true then c.w M2 G (opK2 f' P c2) R else P (.bl false) M2 := kz
      refine ⟨x, rfl, ?_⟩
      cases x with
      | true =>
        rw [if_pos rfl] at kz' ⊢
        refine c.ok.run kz' B X _ (fun e M4 k4 y F4 H4 E4 f4 r4 => ?_) fun C M' z F' H' E' f' => qx C M' z F' H' E' (((f1.trans f2).trans b1).trans f')
        obtain ⟨z, o, kz, hz⟩ := h'.run k4
        exact o.run (seen_ex E4) (see_rp E4 (r2.mono (b1.trans f4))) (see_rp E4 r4) Q fun u F5 H5 f5 e5 g5 n5 r5 => by
          obtain ⟨B5, c1, c3⟩ := unsee E4 f5 e5 g5 n5
          exact q z M4 kz u _ H5 B5 ((((f1.trans f2).trans b1).trans f4).trans c1) (Rp.off c3 r5 hz)
      | false =>
        rw [if_neg Bool.false_ne_true] at kz' ⊢
        exact q _ M2 kz' _ _ H3 B ((f1.trans f2).trans b1) (.bl _)
    | _ => exact kz.elim) fun C M' z F2 H2 E2 f2 => qx C M' z F2 H2 E2 (f1.trans f2)) fun C M' z F1 H1 E1 f1 => qx C M' z F1 H1 E1 f1⟩⟩
def bTest (a : BE K) : BT K := ⟨fun X => tTest (a.t X), wTb a.w, ⟨fun {M G P R} k {H0 F0 F H σ} E X Q q qx =>
  a.ok.run k E X _ (fun d M1 k1 v F1 H1 E1 f1 r1 => by
    cases d with
    | bl x =>
      cases r1
      exact ⟨x, rfl, q x M1 k1 F1 H1 E1 f1⟩
    | _ => exact k1.elim) qx⟩⟩
def bTB (a : BE K) : BT K := ⟨fun X => tB (a.t X), wTb a.w, ⟨fun {M G P R} k {H0 F0 F H σ} E X Q q qx =>
  a.ok.run k E X _ (fun d M1 k1 v F1 H1 E1 f1 r1 => by
    cases d with
    | bl x =>
      cases r1
      exact ⟨x, rfl, q x M1 k1 F1 H1 E1 f1⟩
    | _ => exact k1.elim) qx⟩⟩
def bNot (a : BT K) : BT K := ⟨fun X => tNot (a.t X), wNot a.w, ⟨fun {M G P R} k {H0 F0 F H σ} E X Q q qx => a.ok.run k E X _ (fun x M1 k1 F1 H1 E1 f1 => q (!x) M1 k1 F1 H1 E1 f1) qx⟩⟩
def bAnd (a b : BT K) : BT K := ⟨fun X => tAnd (a.t X) (b.t X), wAnd a.w b.w, ⟨fun {M G P R} k {H0 F0 F H σ} E X Q q qx =>
  a.ok.run k E X _ (fun x M1 k1 F1 H1 E1 f1 => by
    have k1' : if x = true then b.w M1 G P R else P false M1 := k1
    cases x with
    | true =>
      rw [if_pos rfl] at k1' ⊢
      exact b.ok.run k1' E1 X Q (fun d M' z F' H' E' f' => q d M' z F' H' E' (f1.trans f')) fun C M' z F' H' E' f' => qx C M' z F' H' E' (f1.trans f')
    | false =>
      rw [if_neg Bool.false_ne_true] at k1' ⊢
      exact q false M1 k1' F1 H1 E1 f1) qx⟩⟩
def bOr (a b : BT K) : BT K := ⟨fun X => tOr (a.t X) (b.t X), wOr a.w b.w, ⟨fun {M G P R} k {H0 F0 F H σ} E X Q q qx =>
  a.ok.run k E X _ (fun x M1 k1 F1 H1 E1 f1 => by
    have k1' : if x = true then P true M1 else b.w M1 G P R := k1
    cases x with
    | false =>
      rw [if_neg Bool.false_ne_true] at k1' ⊢
      exact b.ok.run k1' E1 X Q (fun d M' z F' H' E' f' => q d M' z F' H' E' (f1.trans f')) fun C M' z F' H' E' f' => qx C M' z F' H' E' (f1.trans f')
    | true =>
      rw [if_pos rfl] at k1' ⊢
      exact q true M1 k1' F1 H1 E1 f1) qx⟩⟩
def bYes : BT K := ⟨fun _ => tYes, wYes, ⟨fun {M G P R} k {H0 F0 F H σ} E X Q q qx => q true M k F H E (Ex.refl F)⟩⟩
def bTru (a : BE K) : BT K := ⟨fun X => tTru2 K (a.t X), wTru a.w, ⟨fun {M G P R} k {H0 F0 F H σ} E X Q q qx =>
  a.ok.run k E X _ (fun d M1 k1 v F1 H1 E1 f1 r1 => by
    have lst : ∀ {d : D}, Rp K F1 v d → (match dl M1 d with
        | some l => P (!l.isEmpty) M1
        | none => False) → ∃ k, TruV K v H1 k ∧ Q k H1 := fun {d} r1 k1 => by
      cases z : dl M1 d with
      | none => rw [z] at k1; exact k1.elim
      | some l =>
        rw [z] at k1
        obtain ⟨a, xs, rfl, h1, h2⟩ := dl_at E1 r1 z
        have e : xs.isEmpty = l.isEmpty := by cases h2 <;> rfl
        exact ⟨_, .inl ⟨xs, sq_of h1, rfl⟩, by rw [e]; exact q _ M1 k1 F1 H1 E1 f1⟩
    cases d with
    | bl x =>
      cases r1
      exact ⟨x, rfl, q x M1 k1 F1 H1 E1 f1⟩
    | non =>
      cases r1
      exact ⟨false, rfl, q false M1 k1 F1 H1 E1 f1⟩
    | tup l =>
      cases r1 with
      | tup h1 h2 =>
        rename_i xs
        have e : xs.isEmpty = l.isEmpty := by cases h2 <;> rfl
        exact ⟨_, .inr (.inl ⟨xs, st_of (E1.en.ef _ _ h1), rfl⟩), by rw [e]; exact q _ M1 k1 F1 H1 E1 f1⟩
    | _ => exact lst r1 k1) qx⟩⟩
end
/-! rows of things -/
def wNil : WA := fun M _ P _ => P [] M
def consK2 (P : List D → Sto → Prop) (d : D) : List D → Sto → Prop := fun ds M => P (d :: ds) M
def consK1 (r : WA) (G : List Sl) (P : List D → Sto → Prop) (R : Addr → Sto → Prop) : D → Sto → Prop := fun d M => r M G (consK2 P d) R
def wCons (a : WE) (r : WA) : WA := fun M G P R => a M G (consK1 r G P R) R
def starK2 (P : List D → Sto → Prop) (l : List D) : List D → Sto → Prop := fun ds M => P (l ++ ds) M
def starK1 (r : WA) (G : List Sl) (P : List D → Sto → Prop) (R : Addr → Sto → Prop) : D → Sto → Prop := fun d M => match d with
  | .tup l => r M G (starK2 P l) R
  | d => match dl M d with
    | some l => r M G (starK2 P l) R
    | none => False
def wStar (a : WE) (r : WA) : WA := fun M G P R => a M G (starK1 r G P R) R
def tupK (P : D → Sto → Prop) : List D → Sto → Prop := fun ds M => ds.length ≤ 100000 ∧ P (.tup ds) M
def wTup (a : WA) : WE := fun M G P R => a M G (tupK P) R
def lstK (P : D → Sto → Prop) : List D → Sto → Prop := fun ds M => ds.length ≤ 100000 ∧ P (.lst ds) M
def wLst (a : WA) : WE := fun M G P R => a M G (lstK P) R
/-- a new list that changes later -/
def newK (P : D → Sto → Prop) (M : Sto) (n : Nd) : Prop := ∀ p, M p = none → P (.ptr p) (updM M p n)
def lstAK (P : D → Sto → Prop) : List D → Sto → Prop := fun ds M => ds.length ≤ 100000 ∧ newK P M (.lst ds)
def wLstA (a : WA) : WE := fun M G P R => a M G (lstAK P) R
section
variable {K : PySem.W.Frag}
def bNil : BA K := ⟨fun _ => tNil, wNil, ⟨fun {M G P R} k {H0 F0 F H σ} E X Q q qx => q [] M k [] F H E (Ex.refl F) .nil⟩⟩
def bCons (a : BE K) (r : BA K) : BA K := ⟨fun X => tCons (a.t X) (r.t X), wCons a.w r.w, ⟨fun {M G P R} k {H0 F0 F H σ} E X Q q qx =>
  a.ok.run k E X _ (fun d M1 k1 v F1 H1 E1 f1 r1 => r.ok.run k1 E1 X _ (fun ds M2 k2 vs F2 H2 E2 f2 r2 => q (d :: ds) M2 k2 (v :: vs) F2 H2 E2 (f1.trans f2) (.cons (r1.mono f2) r2)) fun C M' z F' H' E' f' => qx C M' z F' H' E' (f1.trans f')) qx⟩⟩
def bStar (a : BE K) (r : BA K) : BA K := ⟨fun X => StX.tStar K (a.t X) (r.t X), wStar a.w r.w, ⟨fun {M G P R} k {H0 F0 F H σ} E X Q q qx =>
  a.ok.run k E X _ (fun d M1 k1 v F1 H1 E1 f1 r1 => by
    have go : ∀ {xs : List V} {l : List D}, RpA K F1 xs l → r.w M1 G (starK2 P l) R → r.t X σ H1 fun ys H2 => Q (xs ++ ys) H2 := fun {xs l} h k => r.ok.run k E1 X _ (fun ds M2 k2 vs F2 H2 E2 f2 r2 => q (l ++ ds) M2 k2 (xs ++ vs) F2 H2 E2 (f1.trans f2) ((h.mono f2).app r2)) fun C M' z F' H' E' f' => qx C M' z F' H' E' (f1.trans f')
    have lst : ∀ {d : D}, Rp K F1 v d → (match dl M1 d with
        | some l => r.w M1 G (starK2 P l) R
        | none => False) → ∃ p xs, v = V.ref p ∧ (SqT K H1 p xs ∨ SqL K H1 p xs) ∧ r.t X σ H1 fun ys H2 => Q (xs ++ ys) H2 := fun {d} r1 k1 => by
      cases z : dl M1 d with
      | none => rw [z] at k1; exact k1.elim
      | some l =>
        rw [z] at k1
        obtain ⟨a, xs, rfl, h1, h2⟩ := dl_at E1 r1 z
        exact ⟨a, xs, rfl, .inr (sq_of h1), go h2 k1⟩
    cases d with
    | tup l =>
      cases r1 with
      | tup h1 h2 => exact ⟨_, _, rfl, .inl (st_of (E1.en.ef _ _ h1)), go h2 k1⟩
    | _ => exact lst r1 k1) qx⟩⟩
def bTup (a : BA K) : BE K := ⟨fun X => tTup (a.t X), wTup a.w, ⟨fun {M G P R} k {H0 F0 F H σ} E X Q q qx =>
  a.ok.run k E X _ (fun ds M1 k1 vs F1 H1 E1 f1 r1 => ⟨sz_of (by rw [r1.length]; exact k1.1), fun p hp => by
    obtain ⟨E2, e2⟩ := frozen E1 hp (.tup vs)
    exact q _ M1 k1.2 _ _ _ E2 (f1.trans e2) (.tup upd_same (r1.mono e2))⟩) qx⟩⟩
def bLst (a : BA K) : BE K := ⟨fun X => tLst (a.t X), wLst a.w, ⟨fun {M G P R} k {H0 F0 F H σ} E X Q q qx =>
  a.ok.run k E X _ (fun ds M1 k1 vs F1 H1 E1 f1 r1 => ⟨sz_of (by rw [r1.length]; exact k1.1), fun p hp => by
    obtain ⟨E2, e2⟩ := frozen E1 hp (.lst vs)
    exact q _ M1 k1.2 _ _ _ E2 (f1.trans e2) (.lst upd_same (r1.mono e2))⟩) qx⟩⟩
def bLstA (a : BA K) : BE K := ⟨fun X => tLst (a.t X), wLstA a.w, ⟨fun {M G P R} k {H0 F0 F H σ} E X Q q qx =>
  a.ok.run k E X _ (fun ds M1 k1 vs F1 H1 E1 f1 r1 => ⟨sz_of (by rw [r1.length]; exact k1.1), fun p hp => q _ _ (k1.2 p (E1.free hp)) _ _ _ (alloc E1 hp (.lst r1)) f1 (.ptr p)⟩) qx⟩⟩
end
end Wp

set_option Elab.async false
set_option linter.all false
set_option maxRecDepth 100000
set_option maxHeartbeats 4000000
namespace Wp
open PySem PySem.Spec PyProof.Rows L2 Evl Cy
/-! fields, dicts, places in rows -/
def optK (P : D → Sto → Prop) (M : Sto) : Option D → Prop
  | some d => P d M
  | none => False
def fldF (f : Str) (P : D → Sto → Prop) (M : Sto) : List (Str × D) → Prop := fun fs => optK P M (fs.lookup f)
def fldK (C : Addr) (f : Str) (P : D → Sto → Prop) : D → Sto → Prop := fun d M => df M C d (fldF f P M)
def wFld (C : Addr) (a : WE) (f : Str) : WE := fun M G P R => a M G (fldK C f P) R
def keyOf : D → Option Key
  | .int i => some (.inl i)
  | .str s => some (.inr s)
  | _ => none
theorem keyOf_eq {d : D} {k : Key} (h : keyOf d = some k) : d = keyD k := by
  cases d <;> cases h <;> rfl
def getK (P : D → Sto → Prop) (M : Sto) : Option (List (Key × D)) → Option Key → Prop
  | some es, some k => optK P M (valE es k)
  | _, _ => False
def dgetK2 (P : D → Sto → Prop) (d : D) : D → Sto → Prop := fun k M => getK P M (dd M d) (keyOf k)
def dgetK1 (b : WE) (G : List Sl) (P : D → Sto → Prop) (R : Addr → Sto → Prop) : D → Sto → Prop := fun d M => b M G (dgetK2 P d) R
def wDGet (a b : WE) : WE := fun M G P R => a M G (dgetK1 b G P R) R
def hasK (neg : Bool) (P : D → Sto → Prop) (M : Sto) : Option (List (Key × D)) → Option Key → Prop
  | some es, some k => P (.bl (if neg then !(valE es k).isSome else (valE es k).isSome)) M
  | _, _ => False
def dinK2 (neg : Bool) (P : D → Sto → Prop) (k : D) : D → Sto → Prop := fun d M => hasK neg P M (dd M d) (keyOf k)
def dinK1 (neg : Bool) (b : WE) (G : List Sl) (P : D → Sto → Prop) (R : Addr → Sto → Prop) : D → Sto → Prop := fun d M => b M G (dinK2 neg P d) R
def wDIn (neg : Bool) (a b : WE) : WE := fun M G P R => a M G (dinK1 neg b G P R) R
def wDNew : WE := fun M _ P _ => newK P M (.dic [])
def ixF (P : D → Sto → Prop) (M : Sto) : Option (List D) → D → Prop
  | some l, .int i => optK P M (atI l i)
  | _, _ => False
def chF (P : D → Sto → Prop) (M : Sto) : Option Nat → Prop
  | some c => P (.str ⟨#[c]⟩) M
  | none => False
def mIx (P : D → Sto → Prop) (M : Sto) : D → D → Prop
  | .str z, .int i => z.length ≤ 100000 ∧ chF P M (atI z.cps.toList i)
  | .tup l, i => ixF P M (some l) i
  | d, i => ixF P M (dq M d) i
def ixK2 (P : D → Sto → Prop) (d : D) : D → Sto → Prop := fun i M => mIx P M d i
def ixK1 (b : WE) (G : List Sl) (P : D → Sto → Prop) (R : Addr → Sto → Prop) : D → Sto → Prop := fun d M => b M G (ixK2 P d) R
def wIx (a b : WE) : WE := fun M G P R => a M G (ixK1 b G P R) R
section
variable {K : PySem.W.Frag}
def bFld {C : Addr} (hc : Cls K C) (a : BE K) (f : Str) (hn : NoAttr K C f) : BE K := ⟨fun X => tFld K (a.t X) f, wFld C a.w f, ⟨fun {M G P R} k {H0 F0 F H σ} E X Q q qx =>
  a.ok.run k E X _ (fun d M1 k1 v F1 H1 E1 f1 r1 => by
    obtain ⟨x, dx, gs, fs, rfl, h1, h2, h3, h4⟩ := df_at E1 r1 k1
    have h4' : optK P M1 (fs.lookup f) := h4
    cases z : fs.lookup f with
    | none => rw [z] at h4'; exact h4'.elim
    | some e =>
      rw [z] at h4'
      obtain ⟨w, k1, k2⟩ := get_rp h2 h3 z
      exact ⟨x, C, _, _, w, rfl, h1, hc, hn, k1, q e M1 h4' w F1 H1 E1 f1 k2⟩) qx⟩⟩
theorem val_some {F : Hp} {kvs : List (Key × V)} {es : List (Key × D)} (hn : kvs.map (fun p => p.1) = es.map (fun p => p.1)) (hr : RpA K F (kvs.map fun p => p.2) (es.map fun p => p.2)) (k : Key) : (valV kvs k).isSome = (valE es k).isSome := by
  cases q : valE es k with
  | none =>
    rw [(valE_rp hn hr).2 q]
    rfl
  | some d =>
    obtain ⟨v, k1, _⟩ := (valE_rp hn hr).1 d q
    rw [k1]
    rfl
def bDGet (a b : BE K) : BE K := ⟨fun X => tDGet (a.t X) (b.t X), wDGet a.w b.w, ⟨fun {M G P R} k {H0 F0 F H σ} E X Q q qx =>
  a.ok.run k E X _ (fun d M1 k1 v F1 H1 E1 f1 r1 => b.ok.run k1 E1 X _ (fun c M2 k2 w F2 H2 E2 f2 r2 => by
    have k2' : getK P M2 (dd M2 d) (keyOf c) := k2
    cases z : dd M2 d with
    | none => rw [z] at k2'; exact k2'.elim
    | some es =>
      cases y : keyOf c with
      | none => rw [z, y] at k2'; exact k2'.elim
      | some key =>
        rw [z, y] at k2'
        have k3 : optK P M2 (valE es key) := k2'
        cases x : valE es key with
        | none => rw [x] at k3; exact k3.elim
        | some e =>
          rw [x] at k3
          obtain ⟨a, kvs, rfl, h1, h2, h3⟩ := dd_at E2 (r1.mono f2) z
          rw [keyOf_eq y] at r2
          have hw := key_rp r2
          subst hw
          obtain ⟨u, j1, j2⟩ := (valE_rp h2 h3).1 e x
          refine ⟨a, u, rfl, ?_, q e M2 k3 u F2 H2 E2 (f1.trans f2) j2⟩
          rw [← j1]
          exact .inl ⟨kvs, key, h1, rfl, rfl⟩) fun C M' z F' H' E' f' => qx C M' z F' H' E' (f1.trans f')) qx⟩⟩
def bDIn (a b : BE K) : BE K := ⟨fun X => tDIn (a.t X) (b.t X), wDIn false a.w b.w, ⟨fun {M G P R} k {H0 F0 F H σ} E X Q q qx =>
  a.ok.run k E X _ (fun c M1 k1 v F1 H1 E1 f1 r1 => b.ok.run k1 E1 X _ (fun d M2 k2 w F2 H2 E2 f2 r2 => by
    have k2' : hasK false P M2 (dd M2 d) (keyOf c) := k2
    cases z : dd M2 d with
    | none => rw [z] at k2'; exact k2'.elim
    | some es =>
      cases y : keyOf c with
      | none => rw [z, y] at k2'; exact k2'.elim
      | some key =>
        rw [z, y] at k2'
        obtain ⟨a, kvs, rfl, h1, h2, h3⟩ := dd_at E2 r2 z
        have r1' := r1.mono f2
        rw [keyOf_eq y] at r1'
        have hw := key_rp r1'
        subst hw
        refine ⟨a, _, rfl, .inl ⟨kvs, key, h1, rfl, rfl⟩, ?_⟩
        rw [val_some h2 h3 key]
        exact q _ M2 k2' _ F2 H2 E2 (f1.trans f2) (.bl _)) fun C M' z F' H' E' f' => qx C M' z F' H' E' (f1.trans f')) qx⟩⟩
def bDNotIn (a b : BE K) : BE K := ⟨fun X => tDNotIn (a.t X) (b.t X), wDIn true a.w b.w, ⟨fun {M G P R} k {H0 F0 F H σ} E X Q q qx =>
  a.ok.run k E X _ (fun c M1 k1 v F1 H1 E1 f1 r1 => b.ok.run k1 E1 X _ (fun d M2 k2 w F2 H2 E2 f2 r2 => by
    have k2' : hasK true P M2 (dd M2 d) (keyOf c) := k2
    cases z : dd M2 d with
    | none => rw [z] at k2'; exact k2'.elim
    | some es =>
      cases y : keyOf c with
      | none => rw [z, y] at k2'; exact k2'.elim
      | some key =>
        rw [z, y] at k2'
        obtain ⟨a, kvs, rfl, h1, h2, h3⟩ := dd_at E2 r2 z
        have r1' := r1.mono f2
        rw [keyOf_eq y] at r1'
        have hw := key_rp r1'
        subst hw
        refine ⟨a, _, rfl, .inl ⟨kvs, key, h1, rfl, rfl⟩, ?_⟩
        rw [val_some h2 h3 key]
        exact q _ M2 k2' _ F2 H2 E2 (f1.trans f2) (.bl _)) fun C M' z F' H' E' f' => qx C M' z F' H' E' (f1.trans f')) qx⟩⟩
def bDNew : BE K := ⟨fun _ => tDNewK, wDNew, ⟨fun {M G P R} k {H0 F0 F H σ} E X Q q qx => fun p hp =>
  q _ _ (k p (E.free hp)) _ _ _ (alloc E hp (.dic (kvs := []) (es := []) rfl .nil)) (Ex.refl F) (.ptr p)⟩⟩
theorem ixF_ok {H0 F0 F H : Hp} {M : Sto} {σ : L2.St} {G : List Sl} {P : D → Sto → Prop} {x y : V} {o : Option (List D)} {b : D} {Q : VK} (E : EnM K H0 F0 F M H σ G)
    (h : ixF P M o b) (r2 : Rp K F y b) (ho : ∀ l, o = some l → ∃ p xs, x = .ref p ∧ (SqL K H p xs ∨ SqT K H p xs) ∧ RpA K F xs l)
    (q : ∀ d M', P d M' → ∀ v F' H', EnM K H0 F0 F' M' H' σ G → Ex F F' → Rp K F' v d → Q v H') : gIx K x y H Q := by
  cases o with
  | none => exact h.elim
  | some l =>
    cases b with
    | int i =>
      have h' : optK P M (atI l i) := h
      cases z : atI l i with
      | none => rw [z] at h'; exact h'.elim
      | some d =>
        rw [z] at h'
        obtain ⟨p, xs, rfl, h1, h2⟩ := ho l rfl
        obtain ⟨v, h3, h4⟩ := atI_rp h2 z
        rcases h1 with h1 | h1
        · exact Or.inl ⟨_, _, i, v, rfl, rp_int r2, h1, h3, q d M h' v F H E (Ex.refl F) h4⟩
        · exact Or.inr (Or.inl ⟨_, _, i, v, rfl, rp_int r2, h1, h3, q d M h' v F H E (Ex.refl F) h4⟩)
    | _ => exact h.elim
def bIx (a b : BE K) : BE K := ⟨fun X => tOp (gIx K) (a.t X) (b.t X), wIx a.w b.w, ⟨fun {M G P R} k {H0 F0 F H σ} E X Q q qx =>
  a.ok.run k E X _ (fun d M1 k1 v F1 H1 E1 f1 r1 => b.ok.run k1 E1 X _ (fun c M2 k2 w F2 H2 E2 f2 r2 => by
    have r1' := r1.mono f2
    have q' : ∀ d M', P d M' → ∀ v F' H', EnM K H0 F0 F' M' H' σ G → Ex F2 F' → Rp K F' v d → Q v H' := fun d M' z v F' H' E' f' r' => q d M' z v F' H' E' ((f1.trans f2).trans f') r'
    have k2' : mIx P M2 d c := k2
    unfold mIx at k2'
    split at k2'
    · rename_i z i
      obtain ⟨k3, k4⟩ := k2'
      cases y : atI z.cps.toList i with
      | none => rw [y] at k4; exact k4.elim
      | some ch =>
        rw [y] at k4
        exact (d_ixS (K := K) k3 y).run (F := F2) E2.en.ef r1' r2 Q fun u F3 H3 f3 e3 g3 n3 r3 => q' _ M2 k4 u F3 H3 (E2.grow f3 g3 e3 n3) f3 r3
    · rename_i l
      refine ixF_ok E2 k2' r2 (fun m e => ?_) q'
      cases e
      obtain ⟨a, xs, h1, h2, h3⟩ := dt_at E2 r1' (l := l) rfl
      exact ⟨a, xs, h1, .inr h2, h3⟩
    · refine ixF_ok E2 k2' r2 (fun m e => ?_) q'
      obtain ⟨a, xs, h1, h2, h3⟩ := dq_at E2 r1' e
      exact ⟨a, xs, h1, .inl h2, h3⟩) fun C M' z F' H' E' f' => qx C M' z F' H' E' (f1.trans f')) qx⟩⟩
end
/-! slices -/
abbrev WP := Sto → List Sl → (Option Int → Sto → Prop) → (Addr → Sto → Prop) → Prop
structure BP (K : PySem.W.Frag) where
  t : FX → TO
  w : WP
  ok : ∀ {M : Sto} {G : List Sl} {P : Option Int → Sto → Prop} {R : Addr → Sto → Prop}, w M G P R → ∀ {H0 F0 F H : Hp} {σ : L2.St}, EnM K H0 F0 F M H σ G → ∀ (X : FX) (Q : Option Int → Hp → Prop),
    (∀ d M', P d M' → ∀ F' H', EnM K H0 F0 F' M' H' σ G → Ex F F' → Q d H') → (∀ C M', R C M' → ∀ F' H', EnM K H0 F0 F' M' H' σ G → Ex F F' → X σ (.ref C) none H') → t X σ H Q
def wNo : WP := fun M _ P _ => P none M
def paK (P : Option Int → Sto → Prop) : D → Sto → Prop
  | .int i, M => P (some i) M
  | _, _ => False
def wPa (a : WE) : WP := fun M G P R => a M G (paK P) R
def mSl (P : D → Sto → Prop) (M : Sto) (lo hi : Option Int) : D → Prop
  | .str z => z.length ≤ 100000 ∧ P (.str (cutS z lo hi)) M
  | d => match dl M d with
    | some l => P (.lst (cutD l lo hi)) M
    | none => False
def slK3 (P : D → Sto → Prop) (d : D) (lo : Option Int) : Option Int → Sto → Prop := fun hi M => mSl P M lo hi d
def slK2 (h : WP) (G : List Sl) (P : D → Sto → Prop) (R : Addr → Sto → Prop) (d : D) : Option Int → Sto → Prop := fun lo M => h M G (slK3 P d lo) R
def slK1 (l h : WP) (G : List Sl) (P : D → Sto → Prop) (R : Addr → Sto → Prop) : D → Sto → Prop := fun d M => l M G (slK2 h G P R d) R
def wSl (a : WE) (l h : WP) : WE := fun M G P R => a M G (slK1 l h G P R) R
/-- of a tuple, a part that isn't the whole -/
def mSlT (P : D → Sto → Prop) (M : Sto) (lo hi : Option Int) : D → Prop
  | .tup l => ¬ (HT.sIx l.length 0 lo = 0 ∧ HT.sIx l.length l.length hi = l.length) ∧ P (.tup (cutD l lo hi)) M
  | _ => False
def slTK3 (P : D → Sto → Prop) (d : D) (lo : Option Int) : Option Int → Sto → Prop := fun hi M => mSlT P M lo hi d
def slTK2 (h : WP) (G : List Sl) (P : D → Sto → Prop) (R : Addr → Sto → Prop) (d : D) : Option Int → Sto → Prop := fun lo M => h M G (slTK3 P d lo) R
def slTK1 (l h : WP) (G : List Sl) (P : D → Sto → Prop) (R : Addr → Sto → Prop) : D → Sto → Prop := fun d M => l M G (slTK2 h G P R d) R
def wSlT (a : WE) (l h : WP) : WE := fun M G P R => a M G (slTK1 l h G P R) R
def revK (P : D → Sto → Prop) : D → Sto → Prop := fun d M => match dl M d with
  | some l => P (.lst l.reverse) M
  | none => False
def wRev (a : WE) : WE := fun M G P R => a M G (revK P) R
section
variable {K : PySem.W.Frag}
def bNo : BP K := ⟨fun _ => tNoPart, wNo, fun {M G P R} k {H0 F0 F H σ} E X Q q qx => q none M k F H E (Ex.refl F)⟩
def bPa (a : BE K) : BP K := ⟨fun X => tPart (a.t X), wPa a.w, fun {M G P R} k {H0 F0 F H σ} E X Q q qx =>
  a.ok.run k E X _ (fun d M1 k1 v F1 H1 E1 f1 r1 => by
    cases d with
    | int i =>
      cases r1
      exact ⟨i, rfl, q (some i) M1 k1 F1 H1 E1 f1⟩
    | _ => exact k1.elim) qx⟩
def bSl (a : BE K) (l h : BP K) : BE K := ⟨fun X => tSl (gSl K) (a.t X) (l.t X) (h.t X), wSl a.w l.w h.w, ⟨fun {M G P R} k {H0 F0 F H σ} E X Q q qx =>
  a.ok.run k E X _ (fun d M1 k1 v F1 H1 E1 f1 r1 => l.ok k1 E1 X _ (fun lo M2 k2 F2 H2 E2 f2 => h.ok k2 E2 X _ (fun hi M3 k3 F3 H3 E3 f3 => by
    have r1' := (r1.mono f2).mono f3
    have k3' : mSl P M3 lo hi d := k3
    have lst : (match dl M3 d with
        | some l => P (.lst (cutD l lo hi)) M3
        | none => False) → gSl K v lo hi H3 Q := fun k => by
      cases z : dl M3 d with
      | none => rw [z] at k; exact k.elim
      | some l =>
        rw [z] at k
        obtain ⟨a, xs, rfl, h1, h2⟩ := dl_at E3 r1' z
        refine Or.inl ⟨_, _, rfl, sq_of h1, fun p hp => ?_⟩
        obtain ⟨E4, e4⟩ := frozen E3 hp (.lst (cutV xs lo hi))
        exact q _ _ k _ _ _ E4 (((f1.trans f2).trans f3).trans e4) (.lst upd_same ((cutD_rp h2 lo hi).mono e4))
    cases d with
    | str z =>
      cases r1'
      exact Or.inr ⟨z, rfl, sz_of k3'.1, q _ M3 k3'.2 _ F3 H3 E3 ((f1.trans f2).trans f3) (.str _)⟩
    | _ => exact lst k3') fun C M' z F' H' E' f' => qx C M' z F' H' E' ((f1.trans f2).trans f')) fun C M' z F' H' E' f' => qx C M' z F' H' E' (f1.trans f')) qx⟩⟩
def bSlT (a : BE K) (l h : BP K) : BE K := ⟨fun X => tSl (rSlT K) (a.t X) (l.t X) (h.t X), wSlT a.w l.w h.w, ⟨fun {M G P R} k {H0 F0 F H σ} E X Q q qx =>
  a.ok.run k E X _ (fun d M1 k1 v F1 H1 E1 f1 r1 => l.ok k1 E1 X _ (fun lo M2 k2 F2 H2 E2 f2 => h.ok k2 E2 X _ (fun hi M3 k3 F3 H3 E3 f3 => by
    have r1' := (r1.mono f2).mono f3
    have k3' : mSlT P M3 lo hi d := k3
    cases d with
    | tup l =>
      obtain ⟨a, xs, rfl, h1, h2⟩ := dt_at E3 r1' (l := l) rfl
      refine ⟨_, _, rfl, h1, by rw [h2.length]; exact k3'.1, fun p hp => ?_⟩
      obtain ⟨E4, e4⟩ := frozen E3 hp (.tup (cutV xs lo hi))
      exact q _ _ k3'.2 _ _ _ E4 (((f1.trans f2).trans f3).trans e4) (.tup upd_same ((cutD_rp h2 lo hi).mono e4))
    | _ => exact k3'.elim) fun C M' z F' H' E' f' => qx C M' z F' H' E' ((f1.trans f2).trans f')) fun C M' z F' H' E' f' => qx C M' z F' H' E' (f1.trans f')) qx⟩⟩
end
/-! the built-in -/
abbrev WB := (D → Sto → Prop) → List D → Sto → Prop
structure SB (K : PySem.W.Frag) (r : List V → Hp → VK → Prop) (f : WB) : Prop where
  run : ∀ {M : Sto} {P : D → Sto → Prop} {ds : List D}, f P ds M → ∀ {H0 F0 F H : Hp} {σ : L2.St} {G : List Sl}, EnM K H0 F0 F M H σ G → ∀ {vs : List V}, RpA K F vs ds → ∀ Q : VK,
    (∀ d M', P d M' → ∀ v F' H', EnM K H0 F0 F' M' H' σ G → Ex F F' → Rp K F' v d → Q v H') → r vs H Q
def wB (f : WB) (a : WA) : WE := fun M G P R => a M G (f P) R
section
variable {K : PySem.W.Frag}
def bB {r : List V → Hp → VK → Prop} {f : WB} (h : SB K r f) (a : BA K) : BE K := ⟨fun X => tCB r (a.t X), wB f a.w, ⟨fun {M G P R} k {H0 F0 F H σ} E X Q q qx =>
  a.ok.run k E X _ (fun ds M1 k1 vs F1 H1 E1 f1 r1 => h.run k1 E1 r1 Q fun d M' z v F' H' E' f' r' => q d M' z v F' H' E' (f1.trans f') r') qx⟩⟩
theorem sb_op {r : List V → Hp → VK → Prop} {ds : List D} {c : D} (h : OpN K r ds c) {M : Sto} {P : D → Sto → Prop} (k : P c M) {H0 F0 F H : Hp} {σ : L2.St} {G : List Sl} (E : EnM K H0 F0 F M H σ G) {vs : List V} (rv : RpA K F vs ds) {Q : VK}
    (q : ∀ d M', P d M' → ∀ v F' H', EnM K H0 F0 F' M' H' σ G → Ex F F' → Rp K F' v d → Q v H') : r vs H Q :=
  h.run E.en.ef rv Q fun u F3 H3 f3 e3 g3 n3 r3 => q c M k u F3 H3 (E.grow f3 g3 e3 n3) f3 r3
/-- .. of what is seen -/
theorem sb_see {r : List V → Hp → VK → Prop} {ds : List D} {c : D} {M : Sto} (h : OpN K r (ds.map (see M)) c) {P : D → Sto → Prop} (k : P c M) (hc : flD c = true) {H0 F0 F H : Hp} {σ : L2.St} {G : List Sl} (E : EnM K H0 F0 F M H σ G) {vs : List V} (rv : RpA K F vs ds) {Q : VK}
    (q : ∀ d M', P d M' → ∀ v F' H', EnM K H0 F0 F' M' H' σ G → Ex F F' → Rp K F' v d → Q v H') : r vs H Q :=
  h.run (seen_ex E) (see_rpA E rv) Q fun u F3 H3 f3 e3 g3 n3 r3 => by
    obtain ⟨B, b1, b3⟩ := unsee E f3 e3 g3 n3
    exact q c M k u _ H3 B b1 (Rp.off b3 r3 hc)
def lenF (P : D → Sto → Prop) (M : Sto) : D → Prop
  | .str z => z.length ≤ 100000 ∧ P (.int (z.length : Int)) M
  | .tup l => P (.int (l.length : Int)) M
  | d => match dq M d with
    | some l => P (.int (l.length : Int)) M
    | none => False
def fLen : WB := fun P ds M => match ds with
  | [d] => lenF P M d
  | _ => False
theorem sLen : SB K (Cy.rLen K) fLen := ⟨fun {M P ds} k {H0 F0 F H σ G} E {vs} rv Q q => by
  match ds, k with
  | [d], k =>
    have lst : (match dq M d with
        | some l => P (.int (l.length : Int)) M
        | none => False) → Cy.rLen K vs H Q := fun k => by
      cases z : dq M d with
      | none => rw [z] at k; exact k.elim
      | some l =>
        rw [z] at k
        obtain ⟨v, rfl, r1⟩ := rpa1 rv
        obtain ⟨a, xs, rfl, h1, h2⟩ := dq_at E r1 z
        exact ⟨_, l.length, rfl, Or.inl ⟨_, h1, h2.length.symm⟩, q _ M k _ F H E (Ex.refl F) (.int _)⟩
    cases d with
    | str z => exact sb_op (n_lenS k.1) k.2 E rv q
    | tup l => exact sb_op n_lenT k E rv q
    | _ => exact lst k⟩
/-- list(x), a list that stays -/
def listF (k : List D → Prop) (M : Sto) : D → Prop
  | .tup l => k l
  | d => match dq M d with
    | some l => k l
    | none => False
def fList : WB := fun P ds M => match ds with
  | [d] => listF (fun l => P (.lst l) M) M d
  | _ => False
def fListA : WB := fun P ds M => match ds with
  | [d] => listF (fun l => newK P M (.lst l)) M d
  | _ => False
theorem listF_at {H0 F0 F H : Hp} {M : Sto} {σ : L2.St} {G : List Sl} (E : EnM K H0 F0 F M H σ G) {v : V} {d : D} {k : List D → Prop} (r : Rp K F v d) (h : listF k M d) : ∃ a xs l, v = .ref a ∧ (SqL K H a xs ∨ SqT K H a xs) ∧ RpA K F xs l ∧ k l := by
  have lst : (match dq M d with
        | some l => k l
        | none => False) → ∃ a xs l, v = .ref a ∧ (SqL K H a xs ∨ SqT K H a xs) ∧ RpA K F xs l ∧ k l := fun h => by
    cases z : dq M d with
    | none => rw [z] at h; exact h.elim
    | some l =>
      rw [z] at h
      obtain ⟨a, xs, h1, h2, h3⟩ := dq_at E r z
      exact ⟨a, xs, l, h1, .inl h2, h3, h⟩
  cases d with
  | tup l =>
    obtain ⟨a, xs, h1, h2, h3⟩ := dt_at E r (l := l) rfl
    exact ⟨a, xs, l, h1, .inr h2, h3, h⟩
  | _ => exact lst h
theorem sList : SB K (rListOf K) fList := ⟨fun {M P ds} k {H0 F0 F H σ G} E {vs} rv Q q => by
  match ds, k with
  | [d], k =>
    obtain ⟨v, rfl, r1⟩ := rpa1 rv
    obtain ⟨a, xs, l, rfl, h1, h2, h3⟩ := listF_at E r1 k
    refine ⟨_, _, rfl, h1, fun p hp => ?_⟩
    obtain ⟨E2, e2⟩ := frozen E hp (.lst xs)
    exact q _ _ h3 _ _ _ E2 e2 (.lst upd_same (h2.mono e2))⟩
theorem sListA : SB K (rListOf K) fListA := ⟨fun {M P ds} k {H0 F0 F H σ G} E {vs} rv Q q => by
  match ds, k with
  | [d], k =>
    obtain ⟨v, rfl, r1⟩ := rpa1 rv
    obtain ⟨a, xs, l, rfl, h1, h2, h3⟩ := listF_at E r1 k
    exact ⟨_, _, rfl, h1, fun p hp => q _ _ (h3 p (E.free hp)) _ _ _ (alloc E hp (.lst h2)) (Ex.refl F) (.ptr p)⟩⟩
def tupF (P : D → Sto → Prop) (M : Sto) : D → Prop
  | .tup l => P (.tup l) M
  | d => match dl M d with
    | some l => P (.tup l) M
    | none => False
def fTuple : WB := fun P ds M => match ds with
  | [d] => tupF P M d
  | _ => False
theorem sTuple : SB K (rTupOf K) fTuple := ⟨fun {M P ds} k {H0 F0 F H σ G} E {vs} rv Q q => by
  match ds, k with
  | [d], k =>
    obtain ⟨v, rfl, r1⟩ := rpa1 rv
    have lst : (match dl M d with
        | some l => P (.tup l) M
        | none => False) → rTupOf K [v] H Q := fun h => by
      cases z : dl M d with
      | none => rw [z] at h; exact h.elim
      | some l =>
        rw [z] at h
        obtain ⟨a, xs, rfl, h1, h2⟩ := dl_at E r1 z
        refine ⟨_, _, rfl, .inl ⟨sq_of h1, fun p hp => ?_⟩⟩
        obtain ⟨E2, e2⟩ := frozen E hp (.tup xs)
        exact q _ _ h _ _ _ E2 e2 (.tup upd_same (h2.mono e2))
    cases d with
    | tup l =>
      obtain ⟨a, xs, rfl, h2, h3⟩ := dt_at E r1 (l := l) rfl
      exact ⟨_, _, rfl, .inr ⟨h2, q _ M k _ F H E (Ex.refl F) r1⟩⟩
    | _ => exact lst k⟩
/-- rows of numbers, of truths, of texts -/
def dInts : List D → Option (List Int)
  | [] => some []
  | .int i :: r => (dInts r).map (i :: ·)
  | _ => none
theorem dInts_eq : ∀ {l : List D} {ns : List Int}, dInts l = some ns → l = ns.map D.int
  | [], ns, h => by cases h; rfl
  | d :: r, ns, h => by
    cases d with
    | int i =>
      have h' : (dInts r).map (i :: ·) = some ns := h
      cases z : dInts r with
      | none => rw [z] at h'; cases h'
      | some ms =>
        rw [z] at h'
        cases h'
        rw [dInts_eq z]
        rfl
    | _ => cases h
theorem dInts_map : ∀ ns : List Int, dInts (ns.map D.int) = some ns
  | [] => rfl
  | n :: ns => by
    show (dInts (ns.map D.int)).map (n :: ·) = _
    rw [dInts_map ns]
    rfl
def dBls : List D → Option (List Bool)
  | [] => some []
  | .bl i :: r => (dBls r).map (i :: ·)
  | _ => none
theorem dBls_eq : ∀ {l : List D} {ns : List Bool}, dBls l = some ns → l = ns.map D.bl
  | [], ns, h => by cases h; rfl
  | d :: r, ns, h => by
    cases d with
    | bl i =>
      have h' : (dBls r).map (i :: ·) = some ns := h
      cases z : dBls r with
      | none => rw [z] at h'; cases h'
      | some ms =>
        rw [z] at h'
        cases h'
        rw [dBls_eq z]
        rfl
    | _ => cases h
theorem dBls_map : ∀ ns : List Bool, dBls (ns.map D.bl) = some ns
  | [] => rfl
  | n :: ns => by
    show (dBls (ns.map D.bl)).map (n :: ·) = _
    rw [dBls_map ns]
    rfl
def dStrs : List D → Option (List Str)
  | [] => some []
  | .str i :: r => (dStrs r).map (i :: ·)
  | _ => none
theorem dStrs_eq : ∀ {l : List D} {ns : List Str}, dStrs l = some ns → l = ns.map D.str
  | [], ns, h => by cases h; rfl
  | d :: r, ns, h => by
    cases d with
    | str i =>
      have h' : (dStrs r).map (i :: ·) = some ns := h
      cases z : dStrs r with
      | none => rw [z] at h'; cases h'
      | some ms =>
        rw [z] at h'
        cases h'
        rw [dStrs_eq z]
        rfl
    | _ => cases h
theorem dStrs_map : ∀ ns : List Str, dStrs (ns.map D.str) = some ns
  | [] => rfl
  | n :: ns => by
    show (dStrs (ns.map D.str)).map (n :: ·) = _
    rw [dStrs_map ns]
    rfl
def intsK (k : List Int → Prop) : Option (List D) → Prop
  | some l => match dInts l with
    | some ns => k ns
    | none => False
  | none => False
theorem intsK_eq {k : List Int → Prop} {o : Option (List D)} (h : intsK k o) : ∃ ns, o = some (ns.map D.int) ∧ k ns := by
  cases o with
  | none => exact h.elim
  | some l =>
    have h' : (match dInts l with
    | some ns => k ns
    | none => False) := h
    cases z : dInts l with
    | none => rw [z] at h'; exact h'.elim
    | some ns =>
      rw [z] at h'
      exact ⟨ns, by rw [dInts_eq z], h'⟩
theorem intsK_map {k : List Int → Prop} (ns : List Int) : intsK k (some (ns.map D.int)) = k ns := by
  show (match dInts (ns.map D.int) with
    | some ns => k ns
    | none => False) = _
  rw [dInts_map]
def fSum : WB := fun P ds M => match ds with
  | [d] => intsK (fun ns => P (.int ns.sum) M) (dq M d)
  | _ => False
theorem sSum : SB K (rSum K) fSum := ⟨fun {M P ds} k {H0 F0 F H σ G} E {vs} rv Q q => by
  match ds, k with
  | [d], k =>
    obtain ⟨ns, h1, h2⟩ := intsK_eq k
    obtain ⟨v, rfl, r1⟩ := rpa1 rv
    obtain ⟨a, xs, rfl, h3, h4⟩ := dq_at E r1 h1
    exact ⟨_, ns, rfl, by rw [← h4.ints]; exact h3, q _ M h2 _ F H E (Ex.refl F) (.int _)⟩⟩
def fMax : WB := fun P ds M => match ds with
  | [.int i, .int j] => P (.int (max i j)) M
  | [d] => intsK (fun ns => ∃ m, (m ∈ ns ∧ ∀ y ∈ ns, y ≤ m) ∧ P (.int m) M) (dq M d)
  | _ => False
def fMin : WB := fun P ds M => match ds with
  | [.int i, .int j] => P (.int (min i j)) M
  | [d] => intsK (fun ns => ∃ m, (m ∈ ns ∧ ∀ y ∈ ns, m ≤ y) ∧ P (.int m) M) (dq M d)
  | _ => False
theorem sMax : SB K (gMax K) fMax := ⟨fun {M P ds} k {H0 F0 F H σ G} E {vs} rv Q q => by
  have one : ∀ d, ds = [d] → intsK (fun ns => ∃ m, (m ∈ ns ∧ ∀ y ∈ ns, y ≤ m) ∧ P (.int m) M) (dq M d) → gMax K vs H Q := fun d e kk => by
    subst e
    obtain ⟨ns, h1, m, ⟨h2, h3⟩, h5⟩ := intsK_eq kk
    obtain ⟨v, rfl, r1⟩ := rpa1 rv
    obtain ⟨a, xs, rfl, h6, h4⟩ := dq_at E r1 h1
    refine Or.inr ⟨_, ns, rfl, by rw [← h4.ints]; exact h6, List.length_pos_of_mem h2, fun m' a1 a2 => ?_⟩
    have : m' = m := Int.le_antisymm (h3 _ a1) (a2 _ h2)
    rw [this]
    exact q _ M h5 _ F H E (Ex.refl F) (.int _)
  unfold fMax at k
  split at k
  · exact sb_op n_max2 k E rv q
  · exact one _ rfl k
  · exact k.elim⟩
theorem sMin : SB K (gMin K) fMin := ⟨fun {M P ds} k {H0 F0 F H σ G} E {vs} rv Q q => by
  have one : ∀ d, ds = [d] → intsK (fun ns => ∃ m, (m ∈ ns ∧ ∀ y ∈ ns, m ≤ y) ∧ P (.int m) M) (dq M d) → gMin K vs H Q := fun d e kk => by
    subst e
    obtain ⟨ns, h1, m, ⟨h2, h3⟩, h5⟩ := intsK_eq kk
    obtain ⟨v, rfl, r1⟩ := rpa1 rv
    obtain ⟨a, xs, rfl, h6, h4⟩ := dq_at E r1 h1
    refine Or.inr ⟨_, ns, rfl, by rw [← h4.ints]; exact h6, List.length_pos_of_mem h2, fun m' a1 a2 => ?_⟩
    have : m' = m := Int.le_antisymm (a2 _ h2) (h3 _ a1)
    rw [this]
    exact q _ M h5 _ F H E (Ex.refl F) (.int _)
  unfold fMin at k
  split at k
  · exact sb_op n_min2 k E rv q
  · exact one _ rfl k
  · exact k.elim⟩
def fAbs : WB := fun P ds M => match ds with
  | [.int i] => P (.int (i.natAbs : Int)) M
  | _ => False
theorem sAbs : SB K rAbs fAbs := ⟨fun {M P ds} k {H0 F0 F H σ G} E {vs} rv Q q => by
  unfold fAbs at k
  split at k
  · exact sb_op n_abs k E rv q
  · exact k.elim⟩
def blsK (k : List Bool → Prop) : Option (List D) → Prop
  | some l => match dBls l with
    | some ns => k ns
    | none => False
  | none => False
theorem blsK_eq {k : List Bool → Prop} {o : Option (List D)} (h : blsK k o) : ∃ ns, o = some (ns.map D.bl) ∧ k ns := by
  cases o with
  | none => exact h.elim
  | some l =>
    have h' : (match dBls l with
    | some ns => k ns
    | none => False) := h
    cases z : dBls l with
    | none => rw [z] at h'; exact h'.elim
    | some ns =>
      rw [z] at h'
      exact ⟨ns, by rw [dBls_eq z], h'⟩
theorem blsK_map {k : List Bool → Prop} (ns : List Bool) : blsK k (some (ns.map D.bl)) = k ns := by
  show (match dBls (ns.map D.bl) with
    | some ns => k ns
    | none => False) = _
  rw [dBls_map]
def fAll : WB := fun P ds M => match ds with
  | [d] => blsK (fun ns => P (.bl (ns.all id)) M) (dl M d)
  | _ => False
def fAny : WB := fun P ds M => match ds with
  | [d] => blsK (fun ns => P (.bl (ns.any id)) M) (dl M d)
  | _ => False
theorem sAll : SB K (rAll K) fAll := ⟨fun {M P ds} k {H0 F0 F H σ G} E {vs} rv Q q => by
  match ds, k with
  | [d], k =>
    obtain ⟨ns, h1, h2⟩ := blsK_eq k
    obtain ⟨v, rfl, r1⟩ := rpa1 rv
    obtain ⟨a, xs, rfl, h3, h4⟩ := dl_at E r1 h1
    exact ⟨_, ns, rfl, by rw [← h4.bls]; exact sq_of h3, q _ M h2 _ F H E (Ex.refl F) (.bl _)⟩⟩
theorem sAny : SB K (rAny K) fAny := ⟨fun {M P ds} k {H0 F0 F H σ G} E {vs} rv Q q => by
  match ds, k with
  | [d], k =>
    obtain ⟨ns, h1, h2⟩ := blsK_eq k
    obtain ⟨v, rfl, r1⟩ := rpa1 rv
    obtain ⟨a, xs, rfl, h3, h4⟩ := dl_at E r1 h1
    exact ⟨_, ns, rfl, by rw [← h4.bls]; exact sq_of h3, q _ M h2 _ F H E (Ex.refl F) (.bl _)⟩⟩
def fInt : WB := fun P ds M => match ds with
  | [.bl b] => P (.int (if b then 1 else 0)) M
  | [.int i] => P (.int i) M
  | [.str z] => z.length ≤ 640 ∧ (match PySem.intText? z with | some n => P (.int n) M | none => False)
  | _ => False
theorem sInt : SB K gInt fInt := ⟨fun {M P ds} k {H0 F0 F H σ G} E {vs} rv Q q => by
  unfold fInt at k
  split at k
  · exact sb_op n_intB k E rv q
  · obtain ⟨v, rfl, r1⟩ := rpa1 rv
    cases r1
    exact Or.inl (Or.inl ⟨_, rfl, q _ M k _ F H E (Ex.refl F) (.int _)⟩)
  · obtain ⟨k1, k2⟩ := k
    split at k2
    · rename_i h
      exact sb_op (n_intS h k1) k2 E rv q
    · exact k2.elim
  · exact k.elim⟩
def fStr : WB := fun P ds M => match ds with
  | [.int i] => i.natAbs.log2 < 1920 ∧ P (.str (toString i)) M
  | [.str z] => P (.str z) M
  | _ => False
theorem sStr : SB K gStr fStr := ⟨fun {M P ds} k {H0 F0 F H σ G} E {vs} rv Q q => by
  unfold fStr at k
  split at k
  · exact sb_op (n_strI k.1) k.2 E rv q
  · obtain ⟨v, rfl, r1⟩ := rpa1 rv
    cases r1
    exact Or.inr ⟨_, rfl, q _ M k _ F H E (Ex.refl F) (.str _)⟩
  · exact k.elim⟩
/-- isinstance(x, T), T a built-in class -/
def fIsi (T : String) : WB := fun P ds M => match ds with
  | [d] => noObj (see M d) = true ∧ (match kitB (kindD (see M d)) T with | some b => P (.bl b) M | none => False)
  | _ => False
def wIsi (T : String) (a : WE) : WE := fun M G P R => a M G (fun d M' => fIsi T P [d] M') R
def bIsi (T : String) (a : BE K) : BE K := ⟨fun X => tCB (rIsi K) (tCons (a.t X) (tCons (tC (.ty T)) tNil)), wIsi T a.w, ⟨fun {M G P R} k {H0 F0 F H σ} E X Q q qx =>
  a.ok.run k E X _ (fun d M1 k1 v F1 H1 E1 f1 r1 => by
    obtain ⟨hn, k2⟩ := k1
    cases z : kitB (kindD (see M1 d)) T with
    | none => rw [z] at k2; exact k2.elim
    | some b =>
      rw [z] at k2
      exact ⟨v, .ty T, .type (kindD (see M1 d)), .type T, b, rfl, .ty T, ty_of (see_rp E1 r1) hn (seen_ex E1), kit_ty z, q _ M1 k2 _ F1 H1 E1 f1 (.bl _)⟩) qx⟩⟩
/-- sorted: a row of numbers, of texts -/
def strsK (k : List Str → Prop) : Option (List D) → Prop
  | some l => match dStrs l with
    | some ns => k ns
    | none => False
  | none => False
theorem strsK_eq {k : List Str → Prop} {o : Option (List D)} (h : strsK k o) : ∃ ns, o = some (ns.map D.str) ∧ k ns := by
  cases o with
  | none => exact h.elim
  | some l =>
    have h' : (match dStrs l with
    | some ns => k ns
    | none => False) := h
    cases z : dStrs l with
    | none => rw [z] at h'; exact h'.elim
    | some ns =>
      rw [z] at h'
      exact ⟨ns, by rw [dStrs_eq z], h'⟩
theorem strsK_map {k : List Str → Prop} (ns : List Str) : strsK k (some (ns.map D.str)) = k ns := by
  show (match dStrs (ns.map D.str) with
    | some ns => k ns
    | none => False) = _
  rw [dStrs_map]
theorem rpa_strs {F : Hp} : ∀ zs : List Str, RpA K F (zs.map V.str) (zs.map D.str)
  | [] => .nil
  | z :: zs => .cons (.str z) (rpa_strs zs)
/-- sorted(xs) of texts -/
def fSortS : WB := fun P ds M => match ds with
  | [d] => strsK (fun ns => ns.length < 64 ∧ P (.lst ((srtS ns).map D.str)) M) (dl M d)
  | _ => False
theorem sSortS : SB K (rSortedS K) fSortS := ⟨fun {M P ds} k {H0 F0 F H σ G} E {vs} rv Q q => by
  match ds, k with
  | [d], k =>
    obtain ⟨ns, h1, h2, h5⟩ := strsK_eq k
    obtain ⟨v, rfl, r1⟩ := rpa1 rv
    obtain ⟨a, xs, rfl, h3, h4⟩ := dl_at E r1 h1
    have e := h4.strs
    subst e
    refine ⟨_, ns, rfl, sq_of h3, h2, fun ys p hp hs hF => ?_⟩
    have e : ys = srtS ns := sorted_one hs (srt_ok ns) (hp.trans (srt_perm ns).symm)
    subst e
    obtain ⟨E2, e2⟩ := frozen E hF (.lst ((srtS ns).map V.str))
    refine q _ _ h5 _ _ _ E2 e2 (.lst upd_same (rpa_strs _))⟩
/-- sorted(d): a dict's keys, texts -/
def keyStrs : List Key → Option (List Str)
  | [] => some []
  | .inr s :: r => (keyStrs r).map (s :: ·)
  | _ => none
theorem keyStrs_eq : ∀ {l : List Key} {ns : List Str}, keyStrs l = some ns → l = ns.map Sum.inr
  | [], ns, h => by cases h; rfl
  | d :: r, ns, h => by
    cases d with
    | inr i =>
      have h' : (keyStrs r).map (i :: ·) = some ns := h
      cases z : keyStrs r with
      | none => rw [z] at h'; cases h'
      | some ms =>
        rw [z] at h'
        cases h'
        rw [keyStrs_eq z]
        rfl
    | _ => cases h
theorem keyStrs_map : ∀ ns : List Str, keyStrs (ns.map Sum.inr) = some ns
  | [] => rfl
  | n :: ns => by
    show (keyStrs (ns.map Sum.inr)).map (n :: ·) = _
    rw [keyStrs_map ns]
    rfl
def keysK (k : List Str → Prop) : Option (List (Key × D)) → Prop
  | some es => match keyStrs (es.map fun p => p.1) with
    | some ns => k ns
    | none => False
  | none => False
theorem keysK_map {k : List Str → Prop} {es : List (Key × D)} {ns : List Str} (h : es.map (fun p => p.1) = ns.map Sum.inr) : keysK k (some es) = k ns := by
  show (match keyStrs (es.map fun p => p.1) with
    | some ns => k ns
    | none => False) = _
  rw [h, keyStrs_map]
theorem keysK_eq {k : List Str → Prop} {o : Option (List (Key × D))} (h : keysK k o) : ∃ es ns, o = some es ∧ es.map (fun p => p.1) = ns.map Sum.inr ∧ k ns := by
  cases o with
  | none => exact h.elim
  | some es =>
    have h' : (match keyStrs (es.map fun p => p.1) with
    | some ns => k ns
    | none => False) := h
    cases z : keyStrs (es.map fun p => p.1) with
    | none => rw [z] at h'; exact h'.elim
    | some ns =>
      rw [z] at h'
      exact ⟨es, ns, rfl, keyStrs_eq z, h'⟩
def fSortD : WB := fun P ds M => match ds with
  | [d] => keysK (fun ns => ns.length < 64 ∧ P (.lst ((srtS ns).map D.str)) M) (dd M d)
  | _ => False
theorem sSortD : SB K (rSortedD K) fSortD := ⟨fun {M P ds} k {H0 F0 F H σ G} E {vs} rv Q q => by
  match ds, k with
  | [d], k =>
    obtain ⟨v, rfl, r1⟩ := rpa1 rv
    obtain ⟨es, ns, z, y, k1, k2⟩ := keysK_eq k
    obtain ⟨a, kvs, rfl, h1, h2, h3⟩ := dd_at E r1 z
    refine ⟨_, kvs, ns, rfl, h1, by rw [h2, y], k1, fun ys p hp hs hF => ?_⟩
    have e : ys = srtS ns := sorted_one hs (srt_ok ns) (hp.trans (srt_perm ns).symm)
    subst e
    obtain ⟨E2, e2⟩ := frozen E hF (.lst ((srtS ns).map V.str))
    exact q _ _ k2 _ _ _ E2 e2 (.lst upd_same (rpa_strs _))⟩
end
end Wp

set_option Elab.async false
set_option linter.all false
set_option maxRecDepth 100000
set_option maxHeartbeats 4000000
namespace Wp
open PySem PySem.Spec PyProof.Rows L2 Evl Cy
/-! calls -/
def resK (P : D → Sto → Prop) (R : Addr → Sto → Prop) : Res → Sto → Prop
  | .ok d, M => P d M
  | .exc C, M => R C M
def flR : Res → Bool
  | .ok d => flD d
  | .exc _ => true
/-- of a def over data, which sees through what stands in the store -/
def callXK (T : List D → Res → Prop) (P : D → Sto → Prop) (R : Addr → Sto → Prop) : List D → Sto → Prop := fun ds M => ∃ r, T (ds.map (see M)) r ∧ (flR r = true ∨ ds.map (see M) = ds) ∧ resK P R r M
def wCallX (T : List D → Res → Prop) (a : WA) : WE := fun M G P R => a M G (callXK T P R) R
def callOK (T : List D → List D → Prop) (P : D → Sto → Prop) : List D → Sto → Prop := fun ds M => ∃ l, T (ds.map (see M)) l ∧ (flA l = true ∨ ds.map (see M) = ds) ∧ P (.lst l) M
def wCallO (T : List D → List D → Prop) (a : WA) : WE := fun M G P R => a M G (callOK T P) R
def callOAK (T : List D → List D → Prop) (P : D → Sto → Prop) : List D → Sto → Prop := fun ds M => ∃ l, T (ds.map (see M)) l ∧ (flA l = true ∨ ds.map (see M) = ds) ∧ newK P M (.lst l)
def wCallOA (T : List D → List D → Prop) (a : WA) : WE := fun M G P R => a M G (callOAK T P) R
def callMK (T : RelM) (P : D → Sto → Prop) (R : Addr → Sto → Prop) : List D → Sto → Prop := fun ds M => ∃ Pr, T ds M Pr ∧ ∀ r M', Pr r M' → resK P R r M'
def wCallM (T : RelM) (a : WA) : WE := fun M G P R => a M G (callMK T P R) R
/-- a method: the thing, then the rest -/
def preK (k : List D → Sto → Prop) (d : D) (dd : List D) : List D → Sto → Prop := fun ds M => k (d :: (ds ++ dd)) M
def methF (m : Str) (a : WA) (dd : List D) (G : List Sl) (k : List D → Sto → Prop) (R : Addr → Sto → Prop) (d : D) (M : Sto) : List (Str × D) → Prop := fun fs => fs.lookup m = none ∧ a M G (preK k d dd) R
def methK (C : Addr) (m : Str) (a : WA) (dd : List D) (G : List Sl) (k : List D → Sto → Prop) (R : Addr → Sto → Prop) : D → Sto → Prop := fun d M => df M C d (methF m a dd G k R d M)
def wMethX (C : Addr) (m : Str) (T : List D → Res → Prop) (dd : List D) (o : WE) (a : WA) : WE := fun M G P R => o M G (methK C m a dd G (callXK T P R) R) R
def wMethO (C : Addr) (m : Str) (T : List D → List D → Prop) (dd : List D) (o : WE) (a : WA) : WE := fun M G P R => o M G (methK C m a dd G (callOK T P) R) R
def wMethOA (C : Addr) (m : Str) (T : List D → List D → Prop) (dd : List D) (o : WE) (a : WA) : WE := fun M G P R => o M G (methK C m a dd G (callOAK T P) R) R
def wMethM (C : Addr) (m : Str) (T : RelM) (dd : List D) (o : WE) (a : WA) : WE := fun M G P R => o M G (methK C m a dd G (callMK T P R) R) R
def mkR (P : D → Sto → Prop) (R : Addr → Sto → Prop) (x : Addr) : Res → Sto → Prop
  | .ok _, M => P (.ptr x) M
  | .exc C, M => R C M
def makeK (T : RelI) (P : D → Sto → Prop) (R : Addr → Sto → Prop) : List D → Sto → Prop := fun ds M => ∀ x, M x = none → ∃ Pr, T x ds M Pr ∧ ∀ r M', Pr r M' → mkR P R x r M'
def wMake (T : RelI) (a : WA) : WE := fun M G P R => a M G (makeK T P R) R
def tCallW (sp : Sp) (dvs : List V) (X : FX) (t : TA) : TE := fun σ H Q => tCall sp dvs (X σ) t σ H Q
def tMethW (C : Addr) (m : Str) (sp : Sp) (dvs : List V) (X : FX) (to : TE) (t : TA) : TE := fun σ H Q => tMeth C m sp dvs (X σ) to t σ H Q
def tMakeW (C : Addr) (sp : Sp) (dvs : List V) (X : FX) (t : TA) : TE := fun σ H Q => tMake C sp dvs (X σ) t σ H Q
section
variable {K : PySem.W.Frag}
/-- how a def's promise is used -/
structure SC (K : PySem.W.Frag) (sp : Sp) (k : (D → Sto → Prop) → (Addr → Sto → Prop) → List D → Sto → Prop) : Prop where
  run : ∀ {P : D → Sto → Prop} {R : Addr → Sto → Prop} {ds : List D} {M : Sto}, k P R ds M → ∀ {H0 F0 F H : Hp} {σ : L2.St} {G : List Sl}, EnM K H0 F0 F M H σ G → ∀ {vs : List V}, RpA K F vs ds → ∀ (X : XK) (Q : VK),
    (∀ d M', P d M' → ∀ v F' H', EnM K H0 F0 F' M' H' σ G → Ex F F' → Rp K F' v d → Q v H') → (∀ C M', R C M' → ∀ F' H', EnM K H0 F0 F' M' H' σ G → Ex F F' → X (.ref C) none H') → sp vs H Q X
theorem sc_X (T : List D → Res → Prop) : SC K (spX K T) (callXK T) := ⟨fun {P R ds M} k {H0 F0 F H σ G} E {vs} rv X Q q qx => by
  obtain ⟨r, k1, k2, k3⟩ := k
  rcases k2 with k2 | k2
  · refine ⟨seen M F H, _, r, seen_ex E, see_rpA E rv, k1, ?_⟩
    cases r with
    | ok d =>
      exact fun v F' H' ro r1 => by
        obtain ⟨B, b1, b3⟩ := unsee E ro.e1 ro.ef ro.e0 ro.nw
        exact q d M k3 v _ H' B b1 (Rp.off b3 r1 k2)
    | exc C =>
      exact fun F' H' ro => by
        obtain ⟨B, b1, b3⟩ := unsee E ro.e1 ro.ef ro.e0 ro.nw
        exact qx C M k3 _ H' B b1
  · rw [k2] at k1
    refine ⟨F, ds, r, E.en.ef, rv, k1, ?_⟩
    cases r with
    | ok d => exact fun v F' H' ro r1 => q d M k3 v _ H' (E.grow ro.e1 ro.e0 ro.ef ro.nw) ro.e1 r1
    | exc C => exact fun F' H' ro => qx C M k3 _ H' (E.grow ro.e1 ro.e0 ro.ef ro.nw) ro.e1⟩
theorem new_at {H0 F0 F H F' H' : Hp} {M : Sto} {σ : L2.St} {G : List Sl} (E : EnM K H0 F0 F M H σ G) (B : EnM K H0 F0 F' M H' σ G) {p : Addr} {xs : List V} (hp : H p = none) (h1 : H' p = some (.lst xs)) (hF : F' p = none) : EnM K H0 F0 (upd F' p (.lst xs)) M H' σ G :=
  B.addF hF h1 (ex_none E.en.e0 hp) (E.free hp) (E.freeO hp)
theorem sc_O (T : List D → List D → Prop) : SC K (spO K T) (fun P _ => callOK T P) := ⟨fun {P R ds M} k {H0 F0 F H σ G} E {vs} rv X Q q qx => by
  obtain ⟨l, k1, k2, k3⟩ := k
  rcases k2 with k2 | k2
  · refine ⟨seen M F H, _, l, seen_ex E, see_rpA E rv, k1, fun p xs F' H' ro hp hF h1 r1 => ?_⟩
    obtain ⟨B, b1, b3⟩ := unsee E ro.e1 ro.ef ro.e0 ro.nw
    have hF2 : unseen M F' p = none := by rw [unseen_none (E.free hp)]; exact hF
    have e2 : Ex (unseen M F') (upd (unseen M F') p (.lst xs)) := Ex.new hF2
    exact q _ M k3 _ _ H' (new_at E B hp h1 hF2) (b1.trans e2) (.lst upd_same ((RpA.off b3 r1 k2).mono e2))
  · rw [k2] at k1
    refine ⟨F, ds, l, E.en.ef, rv, k1, fun p xs F' H' ro hp hF h1 r1 => ?_⟩
    have B := E.grow ro.e1 ro.e0 ro.ef ro.nw
    have e2 : Ex F' (upd F' p (.lst xs)) := Ex.new hF
    exact q _ M k3 _ _ H' (new_at E B hp h1 hF) (ro.e1.trans e2) (.lst upd_same (r1.mono e2))⟩
theorem sc_OA (T : List D → List D → Prop) : SC K (spO K T) (fun P _ => callOAK T P) := ⟨fun {P R ds M} k {H0 F0 F H σ G} E {vs} rv X Q q qx => by
  obtain ⟨l, k1, k2, k3⟩ := k
  rcases k2 with k2 | k2
  · refine ⟨seen M F H, _, l, seen_ex E, see_rpA E rv, k1, fun p xs F' H' ro hp hF h1 r1 => ?_⟩
    obtain ⟨B, b1, b3⟩ := unsee E ro.e1 ro.ef ro.e0 ro.nw
    have hF2 : unseen M F' p = none := by rw [unseen_none (E.free hp)]; exact hF
    exact q _ _ (k3 p (E.free hp)) _ _ H' (B.new h1 hF2 (ex_none E.en.e0 hp) (E.freeO hp) (.lst (RpA.off b3 r1 k2))) b1 (.ptr p)
  · rw [k2] at k1
    refine ⟨F, ds, l, E.en.ef, rv, k1, fun p xs F' H' ro hp hF h1 r1 => ?_⟩
    have B := E.grow ro.e1 ro.e0 ro.ef ro.nw
    exact q _ _ (k3 p (E.free hp)) _ _ H' (B.new h1 hF (ex_none E.en.e0 hp) (E.freeO hp) (.lst r1)) ro.e1 (.ptr p)⟩
theorem sc_M (T : RelM) : SC K (spM K T) (callMK T) := ⟨fun {P R ds M} k {H0 F0 F H σ G} E {vs} rv X Q q qx => by
  obtain ⟨Pr, k1, k2⟩ := k
  refine ⟨F, ds, M, Pr, E.en.ef, rv, E.st, k1, fun r M' z => ?_⟩
  cases r with
  | ok d => exact fun v F2 H2 ro r2 => q d M' (k2 _ _ z) v F2 H2 (E.called ro) ro.ro.e1 r2
  | exc C => exact fun F2 H2 ro => qx C M' (k2 _ _ z) F2 H2 (E.called ro) ro.ro.e1⟩
def wCall (k : (D → Sto → Prop) → (Addr → Sto → Prop) → List D → Sto → Prop) (dd : List D) (a : WA) : WE := fun M G P R => a M G (fun ds M' => k P R (ds ++ dd) M') R
def bCall {sp : Sp} {k : (D → Sto → Prop) → (Addr → Sto → Prop) → List D → Sto → Prop} (h : SC K sp k) (a : BA K) : BE K := ⟨fun X => tCallW sp [] X (a.t X), fun M G P R => a.w M G (k P R) R, ⟨fun {M G P R} z {H0 F0 F H σ} E X Q q qx =>
  a.ok.run z E X _ (fun ds M1 k1 vs F1 H1 E1 f1 r1 => by
    rw [List.append_nil]
    exact h.run k1 E1 r1 (X σ) Q (fun d M' z v F' H' E' f' r' => q d M' z v F' H' E' (f1.trans f') r') fun C M' z F' H' E' f' => qx C M' z F' H' E' (f1.trans f')) qx⟩⟩
/-- .. with what stands for the arguments that aren't written -/
def bCallD {sp : Sp} {k : (D → Sto → Prop) → (Addr → Sto → Prop) → List D → Sto → Prop} (h : SC K sp k) (dvs : List V) (dd : List D) (hd : ∀ F, RpA K F dvs dd) (a : BA K) : BE K := ⟨fun X => tCallW sp dvs X (a.t X), wCall k dd a.w, ⟨fun {M G P R} z {H0 F0 F H σ} E X Q q qx =>
  a.ok.run z E X _ (fun ds M1 k1 vs F1 H1 E1 f1 r1 => by
    exact h.run k1 E1 (r1.app (hd F1)) (X σ) Q (fun d M' z v F' H' E' f' r' => q d M' z v F' H' E' (f1.trans f') r') fun C M' z F' H' E' f' => qx C M' z F' H' E' (f1.trans f')) qx⟩⟩
def bMeth {sp : Sp} {k : (D → Sto → Prop) → (Addr → Sto → Prop) → List D → Sto → Prop} (h : SC K sp k) (C : Addr) (m : Str) (dvs : List V) (dd : List D) (hd : ∀ F, RpA K F dvs dd) (o : BE K) (a : BA K) : BE K :=
  ⟨fun X => tMethW C m sp dvs X (o.t X) (a.t X), fun M G P R => o.w M G (methK C m a.w dd G (k P R) R) R, ⟨fun {M G P R} z {H0 F0 F H σ} E X Q q qx =>
  o.ok.run z E X _ (fun d M1 k1 v F1 H1 E1 f1 r1 => by
    obtain ⟨x, dx, gs, fs, rfl, h1, h2, h3, h4, h5⟩ := df_at E1 r1 k1
    refine ⟨x, dx, gs, rfl, h1, lookup_none h2 h4, a.ok.run h5 E1 X _ (fun ds M2 k2 vs F2 H2 E2 f2 r2 => ?_) fun C M' z F' H' E' f' => qx C M' z F' H' E' (f1.trans f')⟩
    exact h.run k2 E2 (.cons (r1.mono f2) (r2.app (hd F2))) (X σ) Q (fun d M' z v F' H' E' f' r' => q d M' z v F' H' E' ((f1.trans f2).trans f') r') fun C M' z F' H' E' f' => qx C M' z F' H' E' ((f1.trans f2).trans f')) qx⟩⟩
def bMake {T : RelI} (C : Addr) (a : BA K) : BE K := ⟨fun X => tMakeW C (spMI K C T) [] X (a.t X), wMake T a.w, ⟨fun {M G P R} z {H0 F0 F H σ} E X Q q qx =>
  a.ok.run z E X _ (fun ds M1 k1 vs F1 H1 E1 f1 r1 => fun x dx hx hdx hne => by
    obtain ⟨Pr, j1, j2⟩ := k1 x (E1.free hx)
    refine ⟨F1, H1, x, dx, vs ++ [], ds, M1, Pr, rfl, rfl, hx, hdx, hne, E1.en.ef, by rw [List.append_nil]; exact r1, E1.st, j1, fun r M' z => ?_⟩
    cases r with
    | ok d => exact fun F2 H2 ro => ⟨rfl, q _ M' (j2 _ _ z) (.ref x) F2 H2 (E1.called ro) (f1.trans ro.ro.e1) (.ptr x)⟩
    | exc C => exact fun F2 H2 ro => qx C M' (j2 _ _ z) F2 H2 (E1.called ro) (f1.trans ro.ro.e1)) qx⟩⟩
end
/-! what is gone through -/
structure WkM (K : PySem.W.Frag) (F1 : Hp) (J : It) (items : List D) (gd : Sto → Prop) : Prop where
  go : ∀ (F : Hp) (M : Sto) (H : Hp), Ex F1 F → Cells K F M H → Ex F H → gd M → (∀ i, i < items.length → J.go i H) ∧ J.stop items.length H
  yl : ∀ (F : Hp) (M : Sto) (H : Hp) (i : Nat) (x : V) (H' : Hp), Ex F1 F → Cells K F M H → Ex F H → gd M → i < items.length → J.yld i H x H' → ∃ F2 d, Ex F F2 ∧ Ex H H' ∧ Ex F2 H' ∧ Nw F F2 H ∧ items[i]? = some d ∧ Rp K F2 x d
abbrev WI := Sto → List Sl → (List D → (Sto → Prop) → Sto → Prop) → (Addr → Sto → Prop) → Prop
structure BI (K : PySem.W.Frag) where
  t : FX → TI
  w : WI
  ok : ∀ {M : Sto} {G : List Sl} {k : List D → (Sto → Prop) → Sto → Prop} {R : Addr → Sto → Prop}, w M G k R → ∀ {H0 F0 F H : Hp} {σ : L2.St}, EnM K H0 F0 F M H σ G → ∀ (X : FX) (Q : It → Hp → Prop),
    (∀ items gd M', k items gd M' → ∀ J F' H', EnM K H0 F0 F' M' H' σ G → Ex F F' → WkM K F' J items gd → Q J H') → (∀ C M', R C M' → ∀ F' H', EnM K H0 F0 F' M' H' σ G → Ex F F' → X σ (.ref C) none H') → t X σ H Q
def yes : Sto → Prop := fun _ => True
def isAt (p : Addr) (n : Nd) : Sto → Prop := fun M => M p = some n
/-- a row, and what keeps it so -/
def lqK (k : List D → (Sto → Prop) → Sto → Prop) (M : Sto) : D → Prop
  | .lst l => k l yes M
  | .scr ns => k (ns.map D.int) yes M
  | .ptr p => match M p with
    | some (.lst l) => k l (isAt p (.lst l)) M
    | _ => False
  | _ => False
section
variable {K : PySem.W.Frag} {H0 F0 F F' H H' : Hp} {M M' : Sto} {σ : L2.St} {G G' : List Sl}
theorem wk_of {J : It} {items : List D} (w : WkD K F J items) : WkM K F J items yes := by
  obtain ⟨Gp, Y, w1, w2, w3⟩ := w.ex
  exact ⟨fun F' M' H' e1 c e2 _ => ⟨fun i hi => w1.goes i H' hi (w2 H' (e1.trans e2)), w1.stops H' (w2 H' (e1.trans e2))⟩, fun F' M' H' i x H2 e1 c e2 _ hi y => w3 i H' x H2 F' e1 e2 (w1.yields i H' x H2 hi (w2 H' (e1.trans e2)) y)⟩
theorem lq_at {k : List D → (Sto → Prop) → Sto → Prop} {d : D} {v : V} (r : Rp K F v d) (h : lqK k M d) (e0 : Ex F H) (c0 : Cells K F M H) : ∃ a l gd, v = .ref a ∧ k l gd M ∧ (∃ xs, SqL K H a xs) ∧ ∀ (F' : Hp) (M' : Sto) (H' : Hp), Ex F F' → Cells K F' M' H' → Ex F' H' → gd M' → ∃ xs, SqL K H' a xs ∧ RpA K F' xs l := by
  cases d with
  | lst l =>
    cases r with
    | lst h1 h2 => exact ⟨_, l, yes, rfl, h, ⟨_, sq_of (e0 _ _ h1)⟩, fun F' M' H' e1 c e2 _ => ⟨_, sq_of (e2 _ _ (e1 _ _ h1)), h2.mono e1⟩⟩
  | scr ns =>
    cases r with
    | scr h1 => exact ⟨_, _, yes, rfl, h, ⟨_, ex_l e0 h1⟩, fun F' M' H' e1 c e2 _ => ⟨_, ex_l (e1.trans e2) h1, RpA.ofInts ns⟩⟩
  | ptr p =>
    have h' : (match M p with
    | some (.lst l) => k l (isAt p (.lst l)) M
    | _ => False) := h
    cases r
    cases z : M p with
    | none => rw [z] at h'; exact h'.elim
    | some n =>
      rw [z] at h'
      cases n with
      | lst l =>
        obtain ⟨_, o, j1, j2⟩ := c0 p _ z
        cases j2 with
        | lst j3 =>
          refine ⟨p, l, _, rfl, h', ⟨_, sq_of j1⟩, fun F' M' H' e1 c e2 g => ?_⟩
          obtain ⟨_, o, h1, h2⟩ := c p _ g
          cases h2 with
          | lst h3 => exact ⟨_, sq_of h1, h3⟩
      | _ => exact h'.elim
  | _ => exact h.elim
theorem wk_lst {a : Addr} {l : List D} {gd : Sto → Prop} (h : ∀ (F' : Hp) (M' : Sto) (H' : Hp), Ex F F' → Cells K F' M' H' → Ex F' H' → gd M' → ∃ xs, SqL K H' a xs ∧ RpA K F' xs l) : WkM K F (Itl K a) l gd :=
  ⟨fun F' M' H' e1 c e2 g => by
    obtain ⟨xs, h1, h2⟩ := h F' M' H' e1 c e2 g
    refine ⟨fun i hi => ?_, xs, h1, by rw [h2.length]; exact Nat.le_refl _⟩
    rw [← h2.length] at hi
    exact ⟨xs, _, h1, List.getElem?_eq_getElem hi⟩, fun F' M' H' i x H2 e1 c e2 g hi y => by
    obtain ⟨xs, h1, h2⟩ := h F' M' H' e1 c e2 g
    obtain ⟨rfl, y2⟩ := y
    obtain ⟨v, h3, h4⟩ := h2.get (List.getElem?_eq_getElem hi)
    rw [y2 xs h1] at h3
    cases h3
    exact ⟨F', _, Ex.refl _, Ex.refl _, e2, Nw.refl _ _, List.getElem?_eq_getElem hi, h4⟩⟩
theorem enum_len (l : List D) : (enumD l).length = l.length := by
  unfold enumD
  rw [List.length_map, List.length_range]
theorem enum_at {l : List D} {i : Nat} (hi : i < l.length) : (enumD l)[i]? = some (D.tup [.int (i : Int), l[i]]) := by
  unfold enumD
  rw [List.getElem?_map, List.getElem?_range hi]
  show some (D.tup [.int (i : Int), l.getD i .non]) = _
  rw [List.getD_eq_getElem?_getD, List.getElem?_eq_getElem hi]
  rfl
theorem wk_enum {a : Addr} {l : List D} {gd : Sto → Prop} (h : ∀ (F' : Hp) (M' : Sto) (H' : Hp), Ex F F' → Cells K F' M' H' → Ex F' H' → gd M' → ∃ xs, SqL K H' a xs ∧ RpA K F' xs l) : WkM K F (Ite K a) (enumD l) gd :=
  ⟨fun F' M' H' e1 c e2 g => by
    obtain ⟨xs, h1, h2⟩ := h F' M' H' e1 c e2 g
    rw [enum_len]
    refine ⟨fun i hi => ?_, xs, h1, by rw [h2.length]; exact Nat.le_refl _⟩
    rw [← h2.length] at hi
    exact ⟨xs, _, h1, List.getElem?_eq_getElem hi⟩, fun F' M' H' i x H2 e1 c e2 g hi y => by
    obtain ⟨xs, h1, h2⟩ := h F' M' H' e1 c e2 g
    rw [enum_len] at hi
    obtain ⟨T, u, rfl, hT, rfl, y2⟩ := y
    obtain ⟨v, h3, h4⟩ := h2.get (List.getElem?_eq_getElem hi)
    rw [y2 xs h1] at h3
    cases h3
    have ef : Ex F' (upd F' T (.tup [.int (i : Int), u])) := Ex.new (ex_none e2 hT)
    exact ⟨_, _, ef, Ex.new hT, ex_upd_both e2, nw_upd hT (Nw.refl _ _), enum_at hi, .tup upd_same (.cons (.int _) (.cons (h4.mono ef) .nil))⟩⟩
theorem zip_len (l m : List D) : (zipD l m).length = min l.length m.length := by
  unfold zipD
  rw [List.length_map, List.length_range]
theorem zip_at {l m : List D} {i : Nat} (hi : i < l.length) (hj : i < m.length) : (zipD l m)[i]? = some (D.tup [l[i], m[i]]) := by
  unfold zipD
  rw [List.getElem?_map, List.getElem?_range (Nat.lt_min.mpr ⟨hi, hj⟩)]
  show some (D.tup [l.getD i .non, m.getD i .non]) = _
  rw [List.getD_eq_getElem?_getD, List.getElem?_eq_getElem hi, List.getD_eq_getElem?_getD, List.getElem?_eq_getElem hj]
  rfl
theorem wk_zip {a b : Addr} {l m : List D} {gd ge : Sto → Prop} (h : ∀ (F' : Hp) (M' : Sto) (H' : Hp), Ex F F' → Cells K F' M' H' → Ex F' H' → gd M' → ∃ xs, SqL K H' a xs ∧ RpA K F' xs l)
    (k : ∀ (F' : Hp) (M' : Sto) (H' : Hp), Ex F F' → Cells K F' M' H' → Ex F' H' → ge M' → ∃ xs, SqL K H' b xs ∧ RpA K F' xs m) : WkM K F (Itz K a b) (zipD l m) (fun M => gd M ∧ ge M) :=
  ⟨fun F' M' H' e1 c e2 g => by
    obtain ⟨xs, h1, h2⟩ := h F' M' H' e1 c e2 g.1
    obtain ⟨ys, k1, k2⟩ := k F' M' H' e1 c e2 g.2
    rw [zip_len]
    refine ⟨fun i hi => ?_, xs, ys, h1, k1, ?_⟩
    · have a1 : i < xs.length := by rw [h2.length]; omega
      have a2 : i < ys.length := by rw [k2.length]; omega
      exact ⟨xs, ys, _, _, h1, k1, List.getElem?_eq_getElem a1, List.getElem?_eq_getElem a2⟩
    · rw [h2.length, k2.length]
      omega, fun F' M' H' i x H2 e1 c e2 g hi y => by
    obtain ⟨xs, h1, h2⟩ := h F' M' H' e1 c e2 g.1
    obtain ⟨ys, k1, k2⟩ := k F' M' H' e1 c e2 g.2
    rw [zip_len] at hi
    obtain ⟨T, u, w, rfl, hT, rfl, y2, y3⟩ := y
    have a1 : i < l.length := by omega
    have a2 : i < m.length := by omega
    obtain ⟨v, h3, h4⟩ := h2.get (List.getElem?_eq_getElem a1)
    rw [y2 xs h1] at h3
    cases h3
    obtain ⟨v, k3, k4⟩ := k2.get (List.getElem?_eq_getElem a2)
    rw [y3 ys k1] at k3
    cases k3
    have ef : Ex F' (upd F' T (.tup [u, w])) := Ex.new (ex_none e2 hT)
    exact ⟨_, _, ef, Ex.new hT, ex_upd_both e2, nw_upd hT (Nw.refl _ _), zip_at a1 a2, .tup upd_same (.cons (h4.mono ef) (.cons (k4.mono ef) .nil))⟩⟩
end
def iListK (k : List D → (Sto → Prop) → Sto → Prop) : D → Sto → Prop := fun d M => lqK k M d
def wIList (a : WE) : WI := fun M G k R => a M G (iListK k) R
def iTupK (k : List D → (Sto → Prop) → Sto → Prop) : D → Sto → Prop
  | .tup l, M => k l yes M
  | _, _ => False
def wITup (a : WE) : WI := fun M G k R => a M G (iTupK k) R
def iStrK (k : List D → (Sto → Prop) → Sto → Prop) : D → Sto → Prop
  | .str z, M => k (Cy.signs z) yes M
  | _, _ => False
def wIStr (a : WE) : WI := fun M G k R => a M G (iStrK k) R
def iRng1K (k : List D → (Sto → Prop) → Sto → Prop) : List D → Sto → Prop
  | [.int n], M => (-(2 ^ 62) ≤ n ∧ n < 2 ^ 62) ∧ k (rngD 0 n.toNat) yes M
  | _, _ => False
def wIRng1 (a : WA) : WI := fun M G k R => a M G (iRng1K k) R
def iRng2K (k : List D → (Sto → Prop) → Sto → Prop) : List D → Sto → Prop
  | [.int lo, .int n], M => (-(2 ^ 62) ≤ lo ∧ lo < 2 ^ 62 ∧ -(2 ^ 62) ≤ n ∧ n < 2 ^ 62) ∧ k (rngD lo (n - lo).toNat) yes M
  | _, _ => False
def wIRng2 (a : WA) : WI := fun M G k R => a M G (iRng2K k) R
def enumF (k : List D → (Sto → Prop) → Sto → Prop) : List D → (Sto → Prop) → Sto → Prop := fun l gd M => k (enumD l) gd M
def iEnumK (k : List D → (Sto → Prop) → Sto → Prop) : List D → Sto → Prop
  | [d], M => lqK (enumF k) M d
  | _, _ => False
def wIEnum (a : WA) : WI := fun M G k R => a M G (iEnumK k) R
def zipF2 (k : List D → (Sto → Prop) → Sto → Prop) (l : List D) (gd : Sto → Prop) : List D → (Sto → Prop) → Sto → Prop := fun m ge M => k (zipD l m) (fun M => gd M ∧ ge M) M
def zipF1 (k : List D → (Sto → Prop) → Sto → Prop) (e : D) : List D → (Sto → Prop) → Sto → Prop := fun l gd M => lqK (zipF2 k l gd) M e
def iZipK (k : List D → (Sto → Prop) → Sto → Prop) : List D → Sto → Prop
  | [d, e], M => lqK (zipF1 k e) M d
  | _, _ => False
def wIZip (a : WA) : WI := fun M G k R => a M G (iZipK k) R
/-- a dict that is gone through stands locked -/
def iKeysK (k : List D → (Sto → Prop) → Sto → Prop) : D → Sto → Prop
  | .ptr p, M => match M p with
    | some (.dicL od kvs es) => k (es.map fun q => keyD q.1) (isAt p (.dicL od kvs es)) M
    | _ => False
  | _, _ => False
def wIKeys (a : WE) : WI := fun M G k R => a M G (iKeysK k) R
def iItemsK (k : List D → (Sto → Prop) → Sto → Prop) : D → Sto → Prop
  | .ptr p, M => match M p with
    | some (.dicL od kvs es) => k (es.map itemD) (isAt p (.dicL od kvs es)) M
    | _ => False
  | _, _ => False
def wIItems (a : WE) : WI := fun M G k R => a M G (iItemsK k) R
section
variable {K : PySem.W.Frag}
def biList (a : BE K) : BI K := ⟨fun X => iList K (a.t X), wIList a.w, fun {M G k R} z {H0 F0 F H σ} E X Q q qx => a.ok.run z E X _ (fun d M1 k1 v F1 H1 E1 f1 r1 => by
  obtain ⟨a, l, gd, rfl, h1, h2, h3⟩ := lq_at r1 k1 E1.en.ef E1.st
  exact ⟨a, rfl, h2, q l gd M1 h1 _ F1 H1 E1 f1 (wk_lst h3)⟩) qx⟩
def biTup (a : BE K) : BI K := ⟨fun X => iTup K (a.t X), wITup a.w, fun {M G k R} z {H0 F0 F H σ} E X Q q qx => a.ok.run z E X _ (fun d M1 k1 v F1 H1 E1 f1 r1 => by
  cases d with
  | tup l =>
    cases r1 with
    | tup h1 h2 =>
      refine ⟨_, rfl, ⟨_, st_of (E1.en.ef _ _ h1)⟩, q l yes M1 k1 _ F1 H1 E1 f1 (wk_of ?_)⟩
      refine wk_same (xs := _) (by rw [← h2.length]; exact walk_tup) (fun H e => st_of (e _ _ h1)) h2 fun i H x H' y => y
  | _ => exact k1.elim) qx⟩
def biStr (a : BE K) : BI K := ⟨fun X => iStr (a.t X), wIStr a.w, fun {M G k R} z {H0 F0 F H σ} E X Q q qx => a.ok.run z E X _ (fun d M1 k1 v F1 H1 E1 f1 r1 => by
  cases d with
  | str x =>
    cases r1
    refine ⟨x, rfl, q _ yes M1 k1 _ F1 H1 E1 f1 (wk_of ?_)⟩
    have hl : (Cy.signs x).length = x.cps.size := by
      unfold Cy.signs
      rw [List.length_map]
      rfl
    refine ⟨_, _, by rw [hl]; exact walk_str, fun _ _ => trivial, fun i H x' H' F1 e1 e2 y => ?_⟩
    obtain ⟨rfl, c, hc, rfl⟩ := y
    refine ⟨F1, _, Ex.refl _, Ex.refl _, e2, Nw.refl _ _, ?_, .str _⟩
    unfold Cy.signs
    rw [List.getElem?_map, Array.getElem?_toList, hc]
    rfl
  | _ => exact k1.elim) qx⟩
def biRng1 (a : BA K) : BI K := ⟨fun X => iRng1 (a.t X), wIRng1 a.w, fun {M G k R} z {H0 F0 F H σ} E X Q q qx => a.ok.run z E X _ (fun ds M1 k1 vs F1 H1 E1 f1 r1 => by
  match ds, k1 with
  | [.int n], k1 =>
    obtain ⟨v, rfl, r2⟩ := rpa1 r1
    cases r2
    exact ⟨n, rfl, k1.1.1, k1.1.2, q _ yes M1 k1.2 _ F1 H1 E1 f1 (wk_of walk_rng)⟩) qx⟩
def biRng2 (a : BA K) : BI K := ⟨fun X => iRng2 (a.t X), wIRng2 a.w, fun {M G k R} z {H0 F0 F H σ} E X Q q qx => a.ok.run z E X _ (fun ds M1 k1 vs F1 H1 E1 f1 r1 => by
  match ds, k1 with
  | [.int lo, .int n], k1 =>
    obtain ⟨v, w, rfl, r2, r3⟩ := rpa2 r1
    cases r2
    cases r3
    exact ⟨lo, n, rfl, k1.1, q _ yes M1 k1.2 _ F1 H1 E1 f1 (wk_of walk_rng)⟩) qx⟩
def biEnum (a : BA K) : BI K := ⟨fun X => iEnum K (a.t X), wIEnum a.w, fun {M G k R} z {H0 F0 F H σ} E X Q q qx => a.ok.run z E X _ (fun ds M1 k1 vs F1 H1 E1 f1 r1 => by
  match ds, k1 with
  | [d], k1 =>
    obtain ⟨v, rfl, r2⟩ := rpa1 r1
    obtain ⟨a, l, gd, rfl, h1, ⟨xs, h2⟩, h3⟩ := lq_at r2 k1 E1.en.ef E1.st
    exact ⟨a, xs, rfl, h2, q _ gd M1 h1 _ F1 H1 E1 f1 (wk_enum h3)⟩) qx⟩
def biZip (a : BA K) : BI K := ⟨fun X => iZip K (a.t X), wIZip a.w, fun {M G k R} z {H0 F0 F H σ} E X Q q qx => a.ok.run z E X _ (fun ds M1 k1 vs F1 H1 E1 f1 r1 => by
  match ds, k1 with
  | [d, e], k1 =>
    obtain ⟨v, w, rfl, r2, r3⟩ := rpa2 r1
    obtain ⟨a, l, gd, rfl, h1, ⟨xs, h2⟩, h3⟩ := lq_at r2 k1 E1.en.ef E1.st
    obtain ⟨b, m, ge, rfl, j1, ⟨ys, j2⟩, j3⟩ := lq_at r3 h1 E1.en.ef E1.st
    exact ⟨a, b, xs, ys, rfl, h2, j2, q _ _ M1 j1 _ F1 H1 E1 f1 (wk_zip h3 j3)⟩) qx⟩
theorem lock_at {H0 F0 F H : Hp} {M : Sto} {p : Addr} {od : Obj} {kvs : List (Key × V)} {es : List (Key × D)} (c : Cells K F M H) (h : M p = some (.dicL od kvs es)) : H p = some (.frz od (.dK kvs)) ∧ kvs.map (fun p => p.1) = es.map (fun p => p.1) ∧ RpA K F (kvs.map fun p => p.2) (es.map fun p => p.2) := by
  obtain ⟨_, o, h1, h2⟩ := c p _ h
  cases h2 with
  | dicL h3 h4 => exact ⟨h1, h3, h4⟩
theorem keys_at {kvs : List (Key × V)} {es : List (Key × D)} (h : kvs.map (fun p => p.1) = es.map (fun p => p.1)) {i : Nat} {k : Key} {v : V} (hi : kvs[i]? = some (k, v)) : ∃ d, es[i]? = some (k, d) := by
  have e : (kvs.map fun p => p.1)[i]? = (es.map fun p => p.1)[i]? := by rw [h]
  rw [List.getElem?_map, List.getElem?_map, hi] at e
  cases z : es[i]? with
  | none => rw [z] at e; cases e
  | some q =>
    rw [z] at e
    obtain ⟨k', d⟩ := q
    cases e
    exact ⟨d, rfl⟩
def biKeys (a : BE K) : BI K := ⟨fun X => iKeys (a.t X), wIKeys a.w, fun {M G k R} z {H0 F0 F H σ} E X Q q qx => a.ok.run z E X _ (fun d M1 k1 v F1 H1 E1 f1 r1 => by
  cases d with
  | ptr p =>
    cases r1
    have k1' : (match M1 p with
      | some (.dicL od kvs es) => k (es.map fun q => keyD q.1) (isAt p (.dicL od kvs es)) M1
      | _ => False) := k1
    cases z : M1 p with
    | none => rw [z] at k1'; exact k1'.elim
    | some n =>
      rw [z] at k1'
      cases n with
      | dicL od kvs es =>
        obtain ⟨h1, h2, h3⟩ := lock_at (H0 := H0) (F0 := F0) E1.st z
        have hl : kvs.length = es.length := by have := congrArg List.length h2; rw [List.length_map, List.length_map] at this; exact this
        refine ⟨p, od, rfl, .inl ⟨kvs, h1, q _ _ M1 k1' _ F1 H1 E1 f1 ⟨fun F' M' H' e1 c e2 g => ?_, fun F' M' H' i x H2 e1 c e2 g hi y => ?_⟩⟩⟩
        · obtain ⟨j1, j2, j3⟩ := lock_at (H0 := H0) (F0 := F0) c g
          rw [List.length_map, ← hl]
          exact ⟨fun i hi => ⟨j1, hi⟩, j1, Nat.le_refl _⟩
        · obtain ⟨j1, j2, j3⟩ := lock_at (H0 := H0) (F0 := F0) c g
          obtain ⟨rfl, k, v, y1, rfl⟩ := y
          obtain ⟨d, y2⟩ := keys_at j2 y1
          exact ⟨F', _, Ex.refl _, Ex.refl _, e2, Nw.refl _ _, by rw [List.getElem?_map, y2]; rfl, rp_key k⟩
      | _ => exact k1'.elim
  | _ => exact k1.elim) qx⟩
def biItems (a : BE K) : BI K := ⟨fun X => iItems (a.t X), wIItems a.w, fun {M G k R} z {H0 F0 F H σ} E X Q q qx => a.ok.run z E X _ (fun d M1 k1 v F1 H1 E1 f1 r1 => by
  cases d with
  | ptr p =>
    cases r1
    have k1' : (match M1 p with
      | some (.dicL od kvs es) => k (es.map itemD) (isAt p (.dicL od kvs es)) M1
      | _ => False) := k1
    cases z : M1 p with
    | none => rw [z] at k1'; exact k1'.elim
    | some n =>
      rw [z] at k1'
      cases n with
      | dicL od kvs es =>
        obtain ⟨h1, h2, h3⟩ := lock_at (H0 := H0) (F0 := F0) E1.st z
        have hl : kvs.length = es.length := by have := congrArg List.length h2; rw [List.length_map, List.length_map] at this; exact this
        refine ⟨p, od, kvs, rfl, h1, q _ _ M1 k1' _ F1 H1 E1 f1 ⟨fun F' M' H' e1 c e2 g => ?_, fun F' M' H' i x H2 e1 c e2 g hi y => ?_⟩⟩
        · obtain ⟨j1, j2, j3⟩ := lock_at (H0 := H0) (F0 := F0) c g
          rw [List.length_map, ← hl]
          exact ⟨fun i hi => ⟨j1, hi⟩, j1, Nat.le_refl _⟩
        · obtain ⟨j1, j2, j3⟩ := lock_at (H0 := H0) (F0 := F0) c g
          obtain ⟨T, k, v, y1, rfl, hT, rfl⟩ := y
          obtain ⟨d, y2⟩ := keys_at j2 y1
          have y3 : (es.map fun p => p.2)[i]? = some d := by rw [List.getElem?_map, y2]; rfl
          obtain ⟨v', y4, y5⟩ := j3.get y3
          rw [List.getElem?_map, y1] at y4
          cases y4
          have ef : Ex F' (upd F' T (.tup [kV k, v])) := Ex.new (ex_none e2 hT)
          exact ⟨_, _, ef, Ex.new hT, ex_upd_both e2, nw_upd hT (Nw.refl _ _), by rw [List.getElem?_map, y2]; rfl, .tup upd_same (.cons (rp_key k) (.cons (y5.mono ef) .nil))⟩
      | _ => exact k1'.elim
  | _ => exact k1.elim) qx⟩
end
end Wp

set_option Elab.async false
set_option linter.all false
set_option maxRecDepth 100000
set_option maxHeartbeats 4000000
namespace Wp
open PySem PySem.Spec PyProof.Rows L2 Evl Cy
/-! what a thing is given to -/
abbrev WG := D → List Sl → (List Sl → Prop) → Prop
structure BG (K : PySem.W.Frag) where
  g : TG
  w : WG
  ok : ∀ {d : D} {G : List Sl} {k : List Sl → Prop}, w d G k → ∀ {H0 F0 F H : Hp} {M : Sto} {σ : L2.St} {v : V}, EnM K H0 F0 F M H σ G → Rp K F v d → ∀ (Q : L2.St → Hp → Prop), (∀ G', k G' → ∀ σ', EnM K H0 F0 F M H σ' G' → Q σ' H) → g v σ H Q
structure BGs (K : PySem.W.Frag) where
  g : TGs
  w : List D → List Sl → (List Sl → Prop) → Prop
  ok : ∀ {d : List D} {G : List Sl} {k : List Sl → Prop}, w d G k → ∀ {H0 F0 F H : Hp} {M : Sto} {σ : L2.St} {v : List V}, EnM K H0 F0 F M H σ G → RpA K F v d → ∀ (Q : L2.St → Hp → Prop), (∀ G', k G' → ∀ σ', EnM K H0 F0 F M H σ' G' → Q σ' H) → g v σ H Q
def wgName (i : Nat) : WG := fun d G k => k (G.set i (.dat d))
def wgsNil : List D → List Sl → (List Sl → Prop) → Prop
  | [], G, k => k G
  | _ :: _, _, _ => False
def wgsK (gs : List D → List Sl → (List Sl → Prop) → Prop) (r : List D) (k : List Sl → Prop) : List Sl → Prop := fun G => gs r G k
def wgsCons (g : WG) (gs : List D → List Sl → (List Sl → Prop) → Prop) : List D → List Sl → (List Sl → Prop) → Prop
  | [], _, _ => False
  | d :: r, G, k => g d G (wgsK gs r k)
def wgTup (n : Nat) (gs : List D → List Sl → (List Sl → Prop) → Prop) : WG := fun d G k => match d with
  | .tup ds => ds.length = n ∧ gs ds G k
  | _ => False
section
variable {K : PySem.W.Frag}
def bgName (i : Nat) : BG K := ⟨gName i, wgName i, fun {d G k} h {H0 F0 F H M σ v} E r Q q => q _ h _ (E.setD r i)⟩
def bgsNil : BGs K := ⟨gNil, wgsNil, fun {d G k} h {H0 F0 F H M σ v} E r Q q => by
  cases d with
  | nil =>
    cases r
    exact ⟨rfl, q G h σ E⟩
  | cons d ds => exact h.elim⟩
def bgsCons (g : BG K) (gs : BGs K) : BGs K := ⟨gCons g.g gs.g, wgsCons g.w gs.w, fun {d G k} h {H0 F0 F H M σ v} E r Q q => by
  cases d with
  | nil => exact h.elim
  | cons d ds =>
    cases r with
    | cons r1 r2 => exact ⟨_, _, rfl, g.ok h E r1 _ fun G1 k1 σ1 E1 => gs.ok k1 E1 r2 _ fun G2 k2 σ2 E2 => q G2 k2 σ2 E2⟩⟩
def bgTup (n : Nat) (gs : BGs K) : BG K := ⟨gTup K n gs.g, wgTup n gs.w, fun {d G k} h {H0 F0 F H M σ v} E r Q q => by
  cases d with
  | tup ds =>
    obtain ⟨a, xs, rfl, h1, h2⟩ := dt_at E r (l := ds) rfl
    exact ⟨a, xs, rfl, h1, by rw [h2.length]; exact h.1, gs.ok h.2 E h2 _ q⟩
  | _ => exact h.elim⟩
end
/-! a thing of no one's keeping while others are made -/
section
variable {K : PySem.W.Frag} {H0 F0 F F' H H' : Hp} {M M' : Sto} {σ σ' : L2.St} {G G' : List Sl}
theorem frame (E : EnM K H0 F0 F M H σ G) {z : Addr} {o : HO} (hH : H z = some o) (hF : F z = none) (hM : M z = none) (hw : ∀ (i : Nat) (w : Ow), G[i]? = some (.own w) → σ[i]? ≠ some (some (.ref z))) : EnM K (upd H0 z o) F0 F M H σ G where
  en := {
    dat := E.en.dat
    own := fun i w q => by
      obtain ⟨p, u, a, b, c, d, r⟩ := E.en.own i w q
      have hne : p ≠ z := fun e => by
        subst e
        exact hw i w q a
      exact ⟨p, u, a, b, by rw [upd_ne hne]; exact c, d, r⟩
    dis := E.en.dis
    e0 := fun a u q => by
      by_cases ha : a = z
      · subst ha
        rw [upd_same] at q
        cases q
        exact hH
      · rw [upd_ne ha] at q
        exact E.en.e0 a u q
    ef := E.en.ef
    e1 := E.en.e1
    nf := fun a u q => by
      by_cases ha : a = z
      · subst ha
        rw [hF] at q
        cases q
      · rw [upd_ne ha]
        exact E.en.nf a u q
    len := E.en.len }
  st := E.st
  h0 := fun a n q => by
    have hne : a ≠ z := fun e => by
      subst e
      rw [hM] at q
      cases q
    rw [upd_ne hne]
    exact E.h0 a n q
  ow := E.ow
theorem unframe {z : Addr} {o : HO} (E : EnM K (upd H0 z o) F0 F M H σ G) (h0 : H0 z = none) (hF0 : F0 z = none) : EnM K H0 F0 F M H σ G ∧ H z = some o ∧ F z = none ∧ M z = none := by
  have hz : H z = some o := E.en.e0 z o upd_same
  refine ⟨⟨⟨E.en.dat, fun i w q => ?_, E.en.dis, fun a u q => ?_, E.en.ef, E.en.e1, fun a u q => ?_, E.en.len⟩, E.st, fun a n q => ?_, E.ow⟩, hz, ?_, ?_⟩
  · obtain ⟨p, u, a, b, c, d, r⟩ := E.en.own i w q
    refine ⟨p, u, a, b, ?_, d, r⟩
    by_cases hp : p = z
    · rw [hp]; exact h0
    · rw [upd_ne hp] at c; exact c
  · have hne : a ≠ z := fun e => by
      subst e
      rw [h0] at q
      cases q
    exact E.en.e0 a u (by rw [upd_ne hne]; exact q)
  · rcases E.en.nf a u q with k | k
    · exact .inl k
    · by_cases ha : a = z
      · rw [ha]; exact .inr h0
      · rw [upd_ne ha] at k; exact .inr k
  · have k := E.h0 a n q
    by_cases ha : a = z
    · rw [ha]; exact h0
    · rw [upd_ne ha] at k; exact k
  · cases q : F z with
    | none => rfl
    | some u =>
      rcases E.en.nf z u q with k | k
      · rw [hF0] at k; cases k
      · rw [upd_same] at k; cases k
  · cases q : M z with
    | none => rfl
    | some n =>
      have k := E.h0 z n q
      rw [upd_same] at k
      cases k
end
def noOwn : List Sl → Bool
  | [] => true
  | .own _ :: _ => false
  | _ :: G => noOwn G
theorem noOwn_at : ∀ {G : List Sl}, noOwn G = true → ∀ (i : Nat) (w : Ow), G[i]? ≠ some (.own w)
  | [], _, i, w => by simp
  | s :: G, h, 0, w => by
    intro q
    have : s = .own w := by simpa using q
    subst this
    cases h
  | s :: G, h, i + 1, w => by
    have hG : noOwn G = true := by
      cases s with
      | own _ => cases h
      | no => exact h
      | dat _ => exact h
    have := noOwn_at hG i w
    simpa using this
/-! comprehensions -/
def noR : Addr → Sto → Prop := fun _ _ => False
def lcV (I : Nat → List D → Sto → Prop) (i : Nat) (acc : List D) : D → Sto → Prop := fun v M => I (i + 1) (acc ++ [v]) M
def lcB (el : WE) (I : Nat → List D → Sto → Prop) (i : Nat) (acc : List D) (G : List Sl) : Bool → Sto → Prop := fun b M => if b = true then el M G (lcV I i acc) noR else I (i + 1) acc M
def lcT (tt : WT) (el : WE) (I : Nat → List D → Sto → Prop) (i : Nat) (acc : List D) (M : Sto) : List Sl → Prop := fun G => tt M G (lcB el I i acc G) noR
def lcK (g : WG) (tt : WT) (el : WE) (vs : List Nat) (G : List Sl) (P : List D → Sto → Prop) : List D → (Sto → Prop) → Sto → Prop := fun items gd M => noOwn G = true ∧ items.length ≤ 40000 ∧ ∃ I : Nat → List D → Sto → Prop, I 0 [] M ∧
  (∀ i acc M d, items[i]? = some d → I i acc M → gd M ∧ acc.length ≤ i ∧ g d (wipeG G vs) (lcT tt el I i acc M)) ∧ ∀ acc M, I items.length acc M → gd M ∧ P acc M
def lstP (P : D → Sto → Prop) : List D → Sto → Prop := fun l M => P (.lst l) M
def newP (P : D → Sto → Prop) : List D → Sto → Prop := fun l M => newK P M (.lst l)
def wLc (it : WI) (g : WG) (tt : WT) (el : WE) (vs : List Nat) : WE := fun M G P R => it M G (lcK g tt el vs G (lstP P)) R
def wLcA (it : WI) (g : WG) (tt : WT) (el : WE) (vs : List Nat) : WE := fun M G P R => it M G (lcK g tt el vs G (newP P)) R
section
variable {K : PySem.W.Frag}
theorem EnM.wipe {H0 F0 F H : Hp} {M : Sto} {σ : L2.St} {G : List Sl} (E : EnM K H0 F0 F M H σ G) : ∀ vs : List Nat, EnM K H0 F0 F M H (L2.wipe σ vs) (wipeG G vs)
  | [] => E
  | v :: vs => (EnM.wipe E vs).setN v
/-- a part of a comprehension doesn't raise -/
abbrev XN : FX := fun _ _ _ _ => False
theorem lc_ok {it : BI K} {g : BG K} {tt : BT K} {el : BE K} {vs : List Nat} (hk : Keeps g.g vs) {M : Sto} {G : List Sl} {P : List D → Sto → Prop} {R : Addr → Sto → Prop} (h : it.w M G (lcK g.w tt.w el.w vs G P) R) {H0 F0 F H : Hp} {σ : L2.St} (E : EnM K H0 F0 F M H σ G) (X : FX) (Q : VK)
    (q : ∀ l M', P l M' → ∀ p xs F' H', EnM K H0 F0 F' M' H' σ G → Ex F F' → H' p = some (.lst xs) → F' p = none → H0 p = none → M' p = none → (∀ (i : Nat) (w : Ow), G[i]? = some (.own w) → σ[i]? ≠ some (some (.ref p))) → RpA K F' xs l → Q (.ref p) H')
    (qx : ∀ C M', R C M' → ∀ F' H', EnM K H0 F0 F' M' H' σ G → Ex F F' → X σ (.ref C) none H') : tLc (it.t X) g.g (tt.t XN) (el.t XN) vs σ H Q := by
  refine it.ok h E X _ (fun items gd M1 k J F1 H1 E1 f1 wk => ?_) qx
  obtain ⟨hno, hz, I, i0, is, ie⟩ := k
  have no := noOwn_at hno
  intro Dl hD
  have h0 : H0 Dl = none := ex_none E1.en.e0 hD
  have hF0 : F0 Dl = none := ex_none (E1.en.e1.trans E1.en.ef) hD
  have hw := E1.freeO hD
  let Pv : Nat → Hp → Prop := fun i H' => ∃ F' M' acc xs, EnM K H0 F0 F' M' H' σ G ∧ Ex F1 F' ∧ H' Dl = some (.lst xs) ∧ F' Dl = none ∧ M' Dl = none ∧ RpA K F' xs acc ∧ I i acc M'
  refine ⟨fun i m H' => m = items.length - i ∧ i ≤ items.length ∧ Pv i H', ⟨_, rfl, Nat.zero_le _, F1, M1, [], [], E1.grow (Ex.refl _) (Ex.new hD) (E1.en.ef.trans (Ex.new hD)) (Nw.refl _ _), Ex.refl _, upd_same, ex_none E1.en.ef hD, E1.free hD, .nil, i0⟩, ?_⟩
  rintro i m H2 ⟨rfl, hi, F', M', acc, xs, E2, f2, hH2, hF2, hM2, hr, hI⟩
  by_cases hlt : i < items.length
  · obtain ⟨hg, hacc, hgo⟩ := is i acc M' items[i] (List.getElem?_eq_getElem hlt) hI
    have gx := wk.go F' M' H2 f2 E2.st E2.en.ef hg
    refine .inr ⟨gx.1 i hlt, fun H' => i + 1 ≤ items.length ∧ Pv (i + 1) H', fun H' p => ⟨items.length - (i + 1), by omega, rfl, p.1, p.2⟩, fun x H3 y => ?_⟩
    obtain ⟨F3, d, k1, k2, k3, k4, hd, r3⟩ := wk.yl F' M' H2 i x H3 f2 E2.st E2.en.ef hg hlt y
    rw [List.getElem?_eq_getElem hlt] at hd
    cases hd
    have E3 : EnM K H0 F0 F3 M' H3 σ G := E2.grow k1 k2 k3 k4
    have hH3 : H3 Dl = some (.lst xs) := k2 _ _ hH2
    have hF3 : F3 Dl = none := nw_none k4 hF2 hH2
    have E3f := frame E3 hH3 hF3 hM2 hw
    refine hk x σ H3 _ ?_
    refine g.ok hgo (Wp.EnM.wipe E3f vs) r3 _ fun G4 k5 σ4 E4 => ?_
    refine tt.ok.run k5 E4 XN _ (fun b M5 k6 F5 H5 E5 f5 => ?_) (fun C M' z => z.elim)
    have back : ∀ {F6 H6 : Hp} {M6 : Sto}, EnM K (upd H0 Dl (.lst xs)) F0 F6 M6 H6 σ4 G4 → Ex F3 F6 → EnM K H0 F0 F6 M6 H6 σ G ∧ H6 Dl = some (.lst xs) ∧ F6 Dl = none ∧ M6 Dl = none := fun {F6 H6 M6} E6 f6 => by
      refine unframe ⟨⟨fun j e h => ?_, fun j w h => absurd h (no j w), fun i j li lj p _ h => absurd h (no i li), E6.en.e0, E6.en.ef, E6.en.e1, E6.en.nf, E3f.en.len⟩, E6.st, E6.h0, fun j w p h1 h2 => absurd h1 (no j w)⟩ h0 hF0
      obtain ⟨v, a, b⟩ := E3f.en.dat j e h
      exact ⟨v, a, b.mono f6⟩
    have k6' : if b = true then el.w M5 G4 (lcV I i acc) noR else I (i + 1) acc M5 := k6
    cases b with
    | false =>
      rw [if_neg Bool.false_ne_true] at k6' ⊢
      obtain ⟨B, b1, b2, b3⟩ := back E5 f5
      exact ⟨hlt, F5, M5, acc, xs, B, (f2.trans k1).trans f5, b1, b2, b3, hr.mono (k1.trans f5), k6'⟩
    | true =>
      rw [if_pos rfl] at k6' ⊢
      refine el.ok.run k6' E5 XN _ (fun v M6 k7 u F6 H6 E6 f6 r6 => ?_) (fun C M' z => z.elim)
      obtain ⟨B, b1, b2, b3⟩ := back E6 (f5.trans f6)
      have hl : xs.length = acc.length := hr.length
      refine ⟨xs, b1, sz_lt (by omega), hlt, F6, M6, acc ++ [v], xs ++ [u], ?_, ((f2.trans k1).trans f5).trans f6, upd_same, b2, b3, (hr.mono ((k1.trans f5).trans f6)).app (.cons r6 .nil), k7⟩
      exact B.aside b2 h0 b3 hw
  · have e : i = items.length := by omega
    subst e
    obtain ⟨hg, hp⟩ := ie acc M' hI
    exact .inl ⟨(wk.go F' M' H2 f2 E2.st E2.en.ef hg).2, q acc M' hp Dl xs F' H2 E2 (f1.trans f2) hH2 hF2 h0 hM2 hw hr⟩
def bLc (it : BI K) (g : BG K) (tt : BT K) (el : BE K) (vs : List Nat) (hk : Keeps g.g vs) : BE K := ⟨fun X => tLc (it.t X) g.g (tt.t XN) (el.t XN) vs, wLc it.w g.w tt.w el.w vs, ⟨fun {M G P R} h {H0 F0 F H σ} E X Q q qx => lc_ok hk h E X Q (fun l M' k p xs F' H' E' f' h1 h2 h3 h4 h5 r => by
  have e2 : Ex F' (upd F' p (.lst xs)) := Ex.new h2
  exact q _ M' k _ _ H' (E'.addF h2 h1 h3 h4 h5) (f'.trans e2) (.lst upd_same (r.mono e2))) qx⟩⟩
def bLcA (it : BI K) (g : BG K) (tt : BT K) (el : BE K) (vs : List Nat) (hk : Keeps g.g vs) : BE K := ⟨fun X => tLc (it.t X) g.g (tt.t XN) (el.t XN) vs, wLcA it.w g.w tt.w el.w vs, ⟨fun {M G P R} h {H0 F0 F H σ} E X Q q qx => lc_ok hk h E X Q (fun l M' k p xs F' H' E' f' h1 h2 h3 h4 h5 r => q _ _ (k p h4) _ _ H' (E'.new h1 h2 h3 h5 (.lst r)) f' (.ptr p)) qx⟩⟩
end
end Wp

set_option Elab.async false
set_option linter.all false
set_option maxRecDepth 100000
set_option maxHeartbeats 4000000
namespace Wp
open PySem PySem.Spec PyProof.Rows L2 Evl Cy
/-! a written dict -/
structure BPs (K : PySem.W.Frag) where
  t : FX → List (TE × TE)
  w : Sto → List Sl → (List (Key × D) → Sto → Prop) → (Addr → Sto → Prop) → Prop
  ok : ∀ {M : Sto} {G : List Sl} {P : List (Key × D) → Sto → Prop} {R : Addr → Sto → Prop}, w M G P R → ∀ {H0 F0 F H : Hp} {σ : L2.St}, EnM K H0 F0 F M H σ G → ∀ (X : FX) (Q : List (V × V) → Hp → Prop),
    (∀ es M', P es M' → ∀ (kvs : List (Key × V)) F' H', EnM K H0 F0 F' M' H' σ G → Ex F F' → kvs.map (fun p => p.1) = es.map (fun p => p.1) → RpA K F' (kvs.map fun p => p.2) (es.map fun p => p.2) → Q (kvs.map fun kv => (kV kv.1, kv.2)) H') → (∀ C M', R C M' → ∀ F' H', EnM K H0 F0 F' M' H' σ G → Ex F F' → X σ (.ref C) none H') → tPairs (t X) σ H Q
def wpNil : Sto → List Sl → (List (Key × D) → Sto → Prop) → (Addr → Sto → Prop) → Prop := fun M _ P _ => P [] M
def pcK2 (P : List (Key × D) → Sto → Prop) (k : Key) (d : D) : List (Key × D) → Sto → Prop := fun es M => P ((k, d) :: es) M
def pcK1 (k : Key) (r : Sto → List Sl → (List (Key × D) → Sto → Prop) → (Addr → Sto → Prop) → Prop) (G : List Sl) (P : List (Key × D) → Sto → Prop) (R : Addr → Sto → Prop) : D → Sto → Prop := fun d M => r M G (pcK2 P k d) R
def wpCons (k : Key) (v : WE) (r : Sto → List Sl → (List (Key × D) → Sto → Prop) → (Addr → Sto → Prop) → Prop) : Sto → List Sl → (List (Key × D) → Sto → Prop) → (Addr → Sto → Prop) → Prop := fun M G P R => v M G (pcK1 k r G P R) R
def dispK (G : List Sl) (P : D → Sto → Prop) : List (Key × D) → Sto → Prop := fun es M => (noOwn G = true ∧ es.length ≤ 15 ∧ (es.map fun p => p.1).Nodup) ∧ newK P M (.dic es)
def wDisp (ps : Sto → List Sl → (List (Key × D) → Sto → Prop) → (Addr → Sto → Prop) → Prop) : WE := fun M G P R => ps M G (dispK G P) R
section
variable {K : PySem.W.Frag}
def bpNil : BPs K := ⟨fun _ => [], wpNil, fun {M G P R} k {H0 F0 F H σ} E X Q q qx => q [] M k [] F H E (Ex.refl F) rfl .nil⟩
def bpCons (k : Key) (v : BE K) (r : BPs K) : BPs K := ⟨fun X => (tC (kV k), v.t X) :: r.t X, wpCons k v.w r.w, fun {M G P R} z {H0 F0 F H σ} E X Q q qx => by
  show v.t X σ H _
  exact v.ok.run z E X _ (fun d M1 k1 y F1 H1 E1 f1 r1 => r.ok k1 E1 X _ (fun es M2 k2 kvs F2 H2 E2 f2 e2 r2 => q _ M2 k2 ((k, y) :: kvs) F2 H2 E2 (f1.trans f2) (by rw [List.map_cons, List.map_cons, e2]) (.cons (r1.mono f2) r2)) fun C M' z F' H' E' f' => qx C M' z F' H' E' (f1.trans f')) qx⟩
theorem no_at {H0 F0 F H : Hp} {σ : L2.St} {G : List Sl} (h : noOwn G = true) (p : Addr) : ∀ (i : Nat) (w : Ow), G[i]? = some (.own w) → σ[i]? ≠ some (some (.ref p)) := fun i w q => absurd q (noOwn_at h i w)
def bDisp (ps : BPs K) : BE K := ⟨fun X => tDisp (ps.t X), fun M G P R => noOwn G = true ∧ wDisp ps.w M G P R, ⟨fun {M G P R} z {H0 F0 F H σ} E X Q q qx => fun p hp => by
  obtain ⟨hno, z⟩ := z
  have hno' := no_at (H0 := H0) (F0 := F0) (F := F) (H := H) (σ := σ) hno p
  have E1 : EnM K H0 F0 F M (upd H p (.dK [])) σ G := E.grow (Ex.refl F) (Ex.new hp) (E.en.ef.trans (Ex.new hp)) (Nw.refl F H)
  have h0 := ex_none E.en.e0 hp
  have hF0 := ex_none (E.en.e1.trans E.en.ef) hp
  have Ef := frame E1 upd_same (ex_none E.en.ef hp) (E.free hp) hno'
  refine ps.ok z Ef X _ (fun es M1 k kvs F1 H1 E1 f1 e1 r1 => ?_) (fun C M' k F1 H1 E1 f1 => ?_)
  · obtain ⟨B, b1, b2, b3⟩ := unframe E1 h0 hF0
    obtain ⟨⟨_, k15, knd⟩, kp⟩ := k
    have hl : kvs.length = es.length := by have := congrArg List.length e1; rw [List.length_map, List.length_map] at this; exact this
    refine ⟨b1, kvs, rfl, by rw [hl]; exact k15, ?_⟩
    rw [mergeK_nodup (by rw [List.nil_append, e1]; exact knd), List.nil_append]
    exact q _ _ (kp p b3) _ _ _ ((B.aside b2 h0 b3 hno').new upd_same b2 h0 hno' (.dic e1 r1)) f1 (.ptr p)
  · obtain ⟨B, b1, b2, b3⟩ := unframe E1 h0 hF0
    exact qx C M' k F1 H1 B f1⟩⟩
end
/-! a dict made of what is gone through -/
def dcV (I : Nat → List (Key × D) → Sto → Prop) (i : Nat) (acc : List (Key × D)) (key : D) : D → Sto → Prop := fun v M => match keyOf key with
  | some k => k ∉ acc.map (fun p => p.1) ∧ I (i + 1) (acc ++ [(k, v)]) M
  | none => False
def dcE (ev : WE) (I : Nat → List (Key × D) → Sto → Prop) (i : Nat) (acc : List (Key × D)) (G : List Sl) : D → Sto → Prop := fun key M => ev M G (dcV I i acc key) noR
def dcT (ek ev : WE) (I : Nat → List (Key × D) → Sto → Prop) (i : Nat) (acc : List (Key × D)) (M : Sto) : List Sl → Prop := fun G => ek M G (dcE ev I i acc G) noR
def dcK (g : WG) (ek ev : WE) (vs : List Nat) (G : List Sl) (P : D → Sto → Prop) : List D → (Sto → Prop) → Sto → Prop := fun items gd M => noOwn G = true ∧ items.length ≤ 40000 ∧ ∃ I : Nat → List (Key × D) → Sto → Prop, I 0 [] M ∧
  (∀ i acc M d, items[i]? = some d → I i acc M → gd M ∧ acc.length ≤ i ∧ g d (wipeG G vs) (dcT ek ev I i acc M)) ∧ ∀ acc M, I items.length acc M → gd M ∧ newK P M (.dic acc)
def wDc (it : WI) (g : WG) (ek ev : WE) (vs : List Nat) : WE := fun M G P R => it M G (dcK g ek ev vs G P) R
section
variable {K : PySem.W.Frag}
theorem putK_fresh {kvs : List (Key × V)} {k : Key} {v : V} (h : k ∉ kvs.map fun p => p.1) : putK kvs k v = kvs ++ [(k, v)] := putK_new h
def bDc (it : BI K) (g : BG K) (ek ev : BE K) (vs : List Nat) (hk : Keeps g.g vs) : BE K := ⟨fun X => tDc (it.t X) g.g tYes (ek.t XN) (ev.t XN) vs, wDc it.w g.w ek.w ev.w vs, ⟨fun {M G P R} h {H0 F0 F H σ} E X Q q qx => by
  refine it.ok h E X _ (fun items gd M1 k J F1 H1 E1 f1 wk => ?_) qx
  obtain ⟨hno, hz, I, i0, is, ie⟩ := k
  have no := noOwn_at hno
  intro Dl hD
  have h0 : H0 Dl = none := ex_none E1.en.e0 hD
  have hF0 : F0 Dl = none := ex_none (E1.en.e1.trans E1.en.ef) hD
  have hw := E1.freeO hD
  let Pv : Nat → Hp → Prop := fun i H' => ∃ F' M' acc kvs, EnM K H0 F0 F' M' H' σ G ∧ Ex F1 F' ∧ H' Dl = some (.dK kvs) ∧ F' Dl = none ∧ M' Dl = none ∧ kvs.map (fun p => p.1) = acc.map (fun p => p.1) ∧ RpA K F' (kvs.map fun p => p.2) (acc.map fun p => p.2) ∧ I i acc M'
  refine ⟨fun i m H' => m = items.length - i ∧ i ≤ items.length ∧ Pv i H', ⟨_, rfl, Nat.zero_le _, F1, M1, [], [], E1.grow (Ex.refl _) (Ex.new hD) (E1.en.ef.trans (Ex.new hD)) (Nw.refl _ _), Ex.refl _, upd_same, ex_none E1.en.ef hD, E1.free hD, rfl, .nil, i0⟩, ?_⟩
  rintro i m H2 ⟨rfl, hi, F', M', acc, kvs, E2, f2, hH2, hF2, hM2, hn, hr, hI⟩
  by_cases hlt : i < items.length
  · obtain ⟨hg, hacc, hgo⟩ := is i acc M' items[i] (List.getElem?_eq_getElem hlt) hI
    have gx := wk.go F' M' H2 f2 E2.st E2.en.ef hg
    refine .inr ⟨gx.1 i hlt, fun H' => i + 1 ≤ items.length ∧ Pv (i + 1) H', fun H' p => ⟨items.length - (i + 1), by omega, rfl, p.1, p.2⟩, fun x H3 y => ?_⟩
    obtain ⟨F3, d, k1, k2, k3, k4, hd, r3⟩ := wk.yl F' M' H2 i x H3 f2 E2.st E2.en.ef hg hlt y
    rw [List.getElem?_eq_getElem hlt] at hd
    cases hd
    have E3 : EnM K H0 F0 F3 M' H3 σ G := E2.grow k1 k2 k3 k4
    have hH3 : H3 Dl = some (.dK kvs) := k2 _ _ hH2
    have hF3 : F3 Dl = none := nw_none k4 hF2 hH2
    have E3f := frame E3 hH3 hF3 hM2 hw
    refine hk x σ H3 _ ?_
    refine g.ok hgo (Wp.EnM.wipe E3f vs) r3 _ fun G4 k5 σ4 E4 => ?_
    show ek.t XN σ4 H3 _
    refine ek.ok.run k5 E4 XN _ (fun key M5 k6 u F5 H5 E5 f5 r5 => ?_) (fun C M' z => z.elim)
    have back : ∀ {F6 H6 : Hp} {M6 : Sto}, EnM K (upd H0 Dl (.dK kvs)) F0 F6 M6 H6 σ4 G4 → Ex F3 F6 → EnM K H0 F0 F6 M6 H6 σ G ∧ H6 Dl = some (.dK kvs) ∧ F6 Dl = none ∧ M6 Dl = none := fun {F6 H6 M6} E6 f6 => by
      refine unframe ⟨⟨fun j e h => ?_, fun j w h => absurd h (no j w), fun i j li lj p _ h => absurd h (no i li), E6.en.e0, E6.en.ef, E6.en.e1, E6.en.nf, E3f.en.len⟩, E6.st, E6.h0, fun j w p h1 h2 => absurd h1 (no j w)⟩ h0 hF0
      obtain ⟨v, a, b⟩ := E3f.en.dat j e h
      exact ⟨v, a, b.mono f6⟩
    refine ev.ok.run k6 E5 XN _ (fun v M6 k7 w F6 H6 E6 f6 r6 => ?_) (fun C M' z => z.elim)
    obtain ⟨B, b1, b2, b3⟩ := back E6 (f5.trans f6)
    have k7' : (match keyOf key with
      | some k => k ∉ acc.map (fun p => p.1) ∧ I (i + 1) (acc ++ [(k, v)]) M6
      | none => False) := k7
    cases z : keyOf key with
    | none => rw [z] at k7'; exact k7'.elim
    | some kk =>
      rw [z] at k7'
      rw [keyOf_eq z] at r5
      have hu := key_rp r5
      subst hu
      have hl : kvs.length = acc.length := by have := congrArg List.length hn; rw [List.length_map, List.length_map] at this; exact this
      refine ⟨kvs, kk, rfl, b1, sz_lt (by omega), hlt, F6, M6, acc ++ [(kk, v)], kvs ++ [(kk, w)], ?_, ((f2.trans k1).trans f5).trans f6, ?_, b2, b3, ?_, ?_, k7'.2⟩
      · exact B.aside b2 h0 b3 hw
      · rw [putK_fresh (by rw [hn]; exact k7'.1), upd_same]
      · rw [List.map_append, List.map_append, hn]
        rfl
      · rw [List.map_append, List.map_append]
        exact (hr.mono ((k1.trans f5).trans f6)).app (.cons r6 .nil)
  · have e : i = items.length := by omega
    subst e
    obtain ⟨hg, hp⟩ := ie acc M' hI
    exact .inl ⟨(wk.go F' M' H2 f2 E2.st E2.en.ef hg).2, q _ _ (hp Dl hM2) _ F' H2 (E2.new hH2 hF2 h0 hw (.dic hn hr)) (f1.trans f2) (.ptr Dl)⟩⟩⟩
end
/-! how many there are of a kind: len({..}), of things that stay -/
def scV (I : Nat → List Key → Sto → Prop) (i : Nat) (acc : List Key) : D → Sto → Prop := fun key M => match keyOf key with
  | some k => I (i + 1) (acc ++ [k]) M
  | none => False
def scT (el : WE) (I : Nat → List Key → Sto → Prop) (i : Nat) (acc : List Key) (M : Sto) : List Sl → Prop := fun G => el M G (scV I i acc) noR
def scK (g : WG) (el : WE) (vs : List Nat) (G : List Sl) (P : D → Sto → Prop) : List D → (Sto → Prop) → Sto → Prop := fun items gd M => noOwn G = true ∧ items.length ≤ 1000 ∧ ∃ I : Nat → List Key → Sto → Prop, I 0 [] M ∧
  (∀ i acc M d, items[i]? = some d → I i acc M → gd M ∧ acc.length ≤ i ∧ g d (wipeG G vs) (scT el I i acc M)) ∧ ∀ acc M, I items.length acc M → gd M ∧ P (.int (cntK acc.reverse : Nat)) M
def wLenSc (it : WI) (g : WG) (el : WE) (vs : List Nat) : WE := fun M G P R => it M G (scK g el vs G P) R
section
variable {K : PySem.W.Frag}
def bLenSc (it : BI K) (g : BG K) (el : BE K) (vs : List Nat) (hk : Keeps g.g vs) : BE K := ⟨fun X => tLenSc (it.t X) g.g tYes (el.t XN) vs, wLenSc it.w g.w el.w vs, ⟨fun {M G P R} h {H0 F0 F H σ} E X Q q qx Cl => by
  unfold tCB tCons tScC
  refine it.ok h E X _ (fun items gd M1 k J F1 H1 E1 f1 wk => ?_) qx
  obtain ⟨hno, hz, I, i0, is, ie⟩ := k
  have no := noOwn_at hno
  intro Dl hD
  have hsb : scanBound = 4096 := rfl
  have h0 : H0 Dl = none := ex_none E1.en.e0 hD
  have hF0 : F0 Dl = none := ex_none (E1.en.e1.trans E1.en.ef) hD
  have hw := E1.freeO hD
  let cell : List Key → HO := fun acc => Cl Dl (fun k => memK acc k) (cntK acc.reverse)
  let Pv : Nat → Hp → Prop := fun i H' => ∃ F' M' acc, EnM K H0 F0 F' M' H' σ G ∧ Ex F1 F' ∧ H' Dl = some (cell acc) ∧ F' Dl = none ∧ M' Dl = none ∧ I i acc M'
  refine ⟨fun i m H' => m = items.length - i ∧ i ≤ items.length ∧ Pv i H', ⟨_, rfl, Nat.zero_le _, F1, M1, [], E1.grow (Ex.refl _) (Ex.new hD) (E1.en.ef.trans (Ex.new hD)) (Nw.refl _ _), Ex.refl _, by rw [upd_same]; rfl, ex_none E1.en.ef hD, E1.free hD, i0⟩, ?_⟩
  rintro i m H2 ⟨rfl, hi, F', M', acc, E2, f2, hH2, hF2, hM2, hI⟩
  by_cases hlt : i < items.length
  · obtain ⟨hg, hacc, hgo⟩ := is i acc M' items[i] (List.getElem?_eq_getElem hlt) hI
    have gx := wk.go F' M' H2 f2 E2.st E2.en.ef hg
    refine .inr ⟨gx.1 i hlt, fun H' => i + 1 ≤ items.length ∧ Pv (i + 1) H', fun H' p => ⟨items.length - (i + 1), by omega, rfl, p.1, p.2⟩, fun x H3 y => ?_⟩
    obtain ⟨F3, d, k1, k2, k3, k4, hd, r3⟩ := wk.yl F' M' H2 i x H3 f2 E2.st E2.en.ef hg hlt y
    rw [List.getElem?_eq_getElem hlt] at hd
    cases hd
    have E3 : EnM K H0 F0 F3 M' H3 σ G := E2.grow k1 k2 k3 k4
    have hH3 : H3 Dl = some (cell acc) := k2 _ _ hH2
    have hF3 : F3 Dl = none := nw_none k4 hF2 hH2
    have E3f := frame E3 hH3 hF3 hM2 hw
    refine hk x σ H3 _ ?_
    refine g.ok hgo (Wp.EnM.wipe E3f vs) r3 _ fun G4 k5 σ4 E4 => ?_
    show el.t XN σ4 H3 _
    have back : ∀ {F6 H6 : Hp} {M6 : Sto}, EnM K (upd H0 Dl (cell acc)) F0 F6 M6 H6 σ4 G4 → Ex F3 F6 → EnM K H0 F0 F6 M6 H6 σ G ∧ H6 Dl = some (cell acc) ∧ F6 Dl = none ∧ M6 Dl = none := fun {F6 H6 M6} E6 f6 => by
      refine unframe ⟨⟨fun j e h => ?_, fun j w h => absurd h (no j w), fun i j li lj p _ h => absurd h (no i li), E6.en.e0, E6.en.ef, E6.en.e1, E6.en.nf, E3f.en.len⟩, E6.st, E6.h0, fun j w p h1 h2 => absurd h1 (no j w)⟩ h0 hF0
      obtain ⟨v, a, b⟩ := E3f.en.dat j e h
      exact ⟨v, a, b.mono f6⟩
    refine el.ok.run k5 E4 XN _ (fun key M6 k7 w F6 H6 E6 f6 r6 => ?_) (fun C M' z => z.elim)
    obtain ⟨B, b1, b2, b3⟩ := back E6 f6
    have k7' : (match keyOf key with
      | some k => I (i + 1) (acc ++ [k]) M6
      | none => False) := k7
    cases z : keyOf key with
    | none => rw [z] at k7'; exact k7'.elim
    | some kk =>
      rw [z] at k7'
      rw [keyOf_eq z] at r6
      have hu := key_rp r6
      subst hu
      have hcl : cntK acc.reverse ≤ 1000 := by
        refine Nat.le_trans (cntK_le _) ?_
        rw [List.length_reverse]
        omega
      refine ⟨kk, _, _, rfl, b1, by rw [hsb]; omega, hlt, F6, M6, acc ++ [kk], B.aside b2 h0 b3 hw, (f2.trans k1).trans f6, ?_, b2, b3, k7'⟩
      rw [upd_same]
      have e1 : (fun j => memK acc j || decide (j = kk)) = fun j => memK (acc ++ [kk]) j := by
        funext j
        unfold memK
        rw [List.any_append]
        congr 1
        simp only [List.any_cons, List.any_nil, Bool.or_false]
        exact decide_eq_decide.mpr eq_comm
      have e2 : (if memK acc kk = true then cntK acc.reverse else cntK acc.reverse + 1) = cntK (acc ++ [kk]).reverse := by
        rw [List.reverse_append]
        have : memK acc.reverse kk = memK acc kk := by
          rw [Bool.eq_iff_iff, memK_iff, memK_iff, List.mem_reverse]
        show _ = (if memK acc.reverse kk = true then cntK acc.reverse else cntK acc.reverse + 1)
        rw [this]
      rw [e1, e2]
  · have e : i = items.length := by omega
    subst e
    obtain ⟨hg, hp⟩ := ie acc M' hI
    exact .inl ⟨(wk.go F' M' H2 f2 E2.st E2.en.ef hg).2, Dl, _, _, rfl, hH2, q _ M' hp _ F' H2 E2 (f1.trans f2) (.int _)⟩⟩⟩
end
/-! methods of lists and texts -/
def appK2 (P : D → Sto → Prop) : D → D → Sto → Prop := fun o d M => match o with
  | .ptr p => match M p with
    | some (.lst l) => l.length < 100000 ∧ P .non (updM M p (.lst (l ++ [d])))
    | _ => False
  | _ => False
def appK1 (a : WE) (G : List Sl) (P : D → Sto → Prop) (R : Addr → Sto → Prop) : D → Sto → Prop := fun o M => match o with
  | .ptr p => match M p with
    | some (.lst _) => a M G (appK2 P (.ptr p)) R
    | _ => False
  | _ => False
def wApp (o a : WE) : WE := fun M G P R => o M G (appK1 a G P R) R
def popF (P : D → Sto → Prop) (M : Sto) (p : Addr) (l : List D) : Prop := optK P (updM M p (.lst l.dropLast)) l[l.length - 1]?
def popK (P : D → Sto → Prop) : D → Sto → Prop := fun o M => match o with
  | .ptr p => match M p with
    | some (.lst l) => popF P M p l
    | _ => False
  | _ => False
def wPop (o : WE) : WE := fun M G P R => o M G (popK P) R
def joinK2 (P : D → Sto → Prop) : D → D → Sto → Prop := fun o d M => match o with
  | .str a => strsK (fun ys => (ys.map (·.length)).sum + ys.length * a.length ≤ 16777216 ∧ P (.str (Txt.join a ys)) M) (dl M d)
  | _ => False
def joinK1 (a : WE) (G : List Sl) (P : D → Sto → Prop) (R : Addr → Sto → Prop) : D → Sto → Prop := fun o M => match o with
  | .str z => a M G (joinK2 P (.str z)) R
  | _ => False
def wJoin (o a : WE) : WE := fun M G P R => o M G (joinK1 a G P R) R
section
variable {K : PySem.W.Frag}
theorem cell_lst {H0 F0 F H : Hp} {M : Sto} {σ : L2.St} {G : List Sl} (E : EnM K H0 F0 F M H σ G) {p : Addr} {l : List D} (h : M p = some (.lst l)) : ∃ xs, H p = some (.lst xs) ∧ RpA K F xs l := by
  obtain ⟨_, o, k1, k2⟩ := E.st p _ h
  cases k2 with
  | lst k3 => exact ⟨_, k1, k3⟩
def bApp (o a : BE K) : BE K := ⟨fun X => tBM K "list" rAppend (o.t X) (tCons (a.t X) tNil), wApp o.w a.w, ⟨fun {M G P R} z {H0 F0 F H σ} E X Q q qx => o.ok.run z E X _ (fun d M1 k1 v F1 H1 E1 f1 r1 => by
  cases d with
  | ptr p =>
    cases r1
    have k1' : (match M1 p with
      | some (.lst _) => a.w M1 G (appK2 P (.ptr p)) R
      | _ => False) := k1
    cases y : M1 p with
    | none => rw [y] at k1'; exact k1'.elim
    | some n =>
      rw [y] at k1'
      cases n with
      | lst l =>
        obtain ⟨xs, h1, h2⟩ := cell_lst E1 y
        refine ⟨Or.inl ⟨rfl, _, sq_of h1⟩, ?_⟩
        refine a.ok.run k1' E1 X _ (fun c M2 k2 w F2 H2 E2 f2 r2 => ?_) fun C M' z F' H' E' f' => qx C M' z F' H' E' (f1.trans f')
        have k2' : (match M2 p with
          | some (.lst l) => l.length < 100000 ∧ P .non (updM M2 p (.lst (l ++ [c])))
          | _ => False) := k2
        cases u : M2 p with
        | none => rw [u] at k2'; exact k2'.elim
        | some n =>
          rw [u] at k2'
          cases n with
          | lst m =>
            obtain ⟨ys, h3, h4⟩ := cell_lst E2 u
            exact ⟨p, _, w, rfl, rfl, h3, sz_lt (by rw [h4.length]; exact k2'.1), q _ _ k2'.2 _ F2 _ (E2.put u (.lst (h4.app (.cons r2 .nil)))) (f1.trans f2) .non⟩
          | _ => exact k2'.elim
      | _ => exact k1'.elim
  | _ => exact k1.elim) qx⟩⟩
def bPop (o : BE K) : BE K := ⟨fun X => tBM0 K "list" rPop (o.t X), wPop o.w, ⟨fun {M G P R} z {H0 F0 F H σ} E X Q q qx => o.ok.run z E X _ (fun d M1 k1 v F1 H1 E1 f1 r1 => by
  cases d with
  | ptr p =>
    cases r1
    have k1' : (match M1 p with
      | some (.lst l) => popF P M1 p l
      | _ => False) := k1
    cases y : M1 p with
    | none => rw [y] at k1'; exact k1'.elim
    | some n =>
      rw [y] at k1'
      cases n with
      | lst l =>
        have k2 : optK P (updM M1 p (.lst l.dropLast)) l[l.length - 1]? := k1'
        cases u : l[l.length - 1]? with
        | none => rw [u] at k2; exact k2.elim
        | some d =>
          rw [u] at k2
          obtain ⟨xs, h1, h2⟩ := cell_lst E1 y
          obtain ⟨w, j1, j2⟩ := h2.get u
          exact ⟨Or.inl ⟨rfl, _, sq_of h1⟩, p, _, w, rfl, rfl, h1, by rw [h2.length]; exact j1, q d _ k2 w F1 _ (E1.put y (.lst (RpA.dropLast h2))) f1 j2⟩
      | _ => exact k1'.elim
  | _ => exact k1.elim) qx⟩⟩
def bJoin (o a : BE K) : BE K := ⟨fun X => tM1 (rJoin K) (o.t X) (a.t X), wJoin o.w a.w, ⟨fun {M G P R} z {H0 F0 F H σ} E X Q q qx => o.ok.run z E X _ (fun d M1 k1 v F1 H1 E1 f1 r1 => by
  cases d with
  | str s =>
    cases r1
    refine ⟨⟨s, rfl⟩, a.ok.run k1 E1 X _ (fun c M2 k2 w F2 H2 E2 f2 r2 => ?_) fun C M' z F' H' E' f' => qx C M' z F' H' E' (f1.trans f')⟩
    obtain ⟨ys, h1, h2, h3⟩ := strsK_eq k2
    obtain ⟨x, xs, rfl, h4, h5⟩ := dl_at E2 r2 h1
    exact ⟨s, _, ys, rfl, rfl, .inl (sq_of (by rw [h4, h5.strs])), h2, q _ M2 h3 _ F2 H2 E2 (f1.trans f2) (.str _)⟩
  | _ => exact k1.elim) qx⟩⟩
end
end Wp

set_option Elab.async false
set_option linter.all false
set_option maxRecDepth 100000
set_option maxHeartbeats 4000000
namespace Wp
open PySem PySem.Spec PyProof.Rows L2 Evl Cy
/-! orders -/
def exP (P : Ot → Sto → Prop) (G : List Sl) : Addr → Sto → Prop := fun C M => P (.ex C G) M
def nxP (P : Ot → Sto → Prop) : Sto → List Sl → Prop := fun M G => P (.nx G) M
def seqK (b : WS) (P : Ot → Sto → Prop) : Ot → Sto → Prop
  | .nx G, M => b M G P
  | o, M => P o M
def wSeq (a b : WS) : WS := fun M G P => a M G (seqK b P)
def asgG (P : Ot → Sto → Prop) (M : Sto) : List Sl → Prop := fun G => P (.nx G) M
def asgK (g : WG) (G : List Sl) (P : Ot → Sto → Prop) : D → Sto → Prop := fun d M => g d G (asgG P M)
def wAsg (e : WE) (g : WG) : WS := fun M G P => e M G (asgK g G P) (exP P G)
def parK (i j : Nat) (G : List Sl) (P : Ot → Sto → Prop) : List D → Sto → Prop
  | [a, b], M => P (.nx ((G.set i (.dat a)).set j (.dat b))) M
  | _, _ => False
def wPar (i j : Nat) (a : WA) : WS := fun M G P => a M G (parK i j G P) (exP P G)
def rtK (P : Ot → Sto → Prop) : D → Sto → Prop := fun d M => P (.rt d) M
def wRet (e : WE) : WS := fun M G P => e M G (rtK P) (exP P G)
/-- a list of one's own is handed back: from now on it stays -/
def rtFK (P : Ot → Sto → Prop) : D → Sto → Prop := fun d M => match d with
  | .ptr p => match M p with
    | some (.lst l) => P (.rt (.lst l)) (lessM M p)
    | _ => False
  | d => P (.rt d) M
def wRetF (e : WE) : WS := fun M G P => e M G (rtFK P) (exP P G)
def wRetN : WS := fun M _ P => P (.rt .non) M
def dropK (G : List Sl) (P : Ot → Sto → Prop) : D → Sto → Prop := fun _ M => P (.nx G) M
def wDrop (e : WE) : WS := fun M G P => e M G (dropK G P) (exP P G)
def wNext : WS := fun M G P => P (.nx G) M
def wBrk : WS := fun M G P => P (.bk G) M
def wCont : WS := fun M G P => P (.ct G) M
def wRaise (C : Addr) : WS := fun M G P => P (.ex C G) M
def ifK (a b : WS) (G : List Sl) (P : Ot → Sto → Prop) : Bool → Sto → Prop := fun x M => if x = true then a M G P else b M G P
def wIf (t : WT) (a b : WS) : WS := fun M G P => t M G (ifK a b G P) (exP P G)
/-- slots that are forgotten -/
def wFgt (vs : List Nat) (a : WS) : WS := fun M G P => a M (wipeG G vs) P
def fsF (C p : Addr) (f : Str) (d : D) (G : List Sl) (P : Ot → Sto → Prop) (M : Sto) : Option Nd → Prop
  | some (.ins C' fs) => C' = C ∧ fs.length < 1000 ∧ P (.nx G) (updM M p (.ins C' (putD f d fs)))
  | _ => False
def fsK2 (C : Addr) (f : Str) (G : List Sl) (P : Ot → Sto → Prop) (d : D) : D → Sto → Prop := fun o M => match o with
  | .ptr p => fsF C p f d G P M (M p)
  | _ => False
def fsK1 (C : Addr) (f : Str) (o : WE) (G : List Sl) (P : Ot → Sto → Prop) : D → Sto → Prop := fun d M => o M G (fsK2 C f G P d) (exP P G)
def wFldSet (C : Addr) (f : Str) (o e : WE) : WS := fun M G P => e M G (fsK1 C f o G P) (exP P G)
def dpF (p : Addr) (d : D) (G : List Sl) (P : Ot → Sto → Prop) (M : Sto) : Option Key → Option Nd → Prop
  | some k, some (.dic es) => es.length < 100000 ∧ P (.nx G) (updM M p (.dic (putE es k d)))
  | _, _ => False
def dpK3 (G : List Sl) (P : Ot → Sto → Prop) (d o : D) : D → Sto → Prop := fun k M => match o with
  | .ptr p => dpF p d G P M (keyOf k) (M p)
  | _ => False
def dpK2 (k : WE) (G : List Sl) (P : Ot → Sto → Prop) (d : D) : D → Sto → Prop := fun o M => k M G (dpK3 G P d o) (exP P G)
def dpK1 (o k : WE) (G : List Sl) (P : Ot → Sto → Prop) : D → Sto → Prop := fun d M => o M G (dpK2 k G P d) (exP P G)
def wDPut (o k e : WE) : WS := fun M G P => e M G (dpK1 o k G P) (exP P G)
def ddF (p : Addr) (G : List Sl) (P : Ot → Sto → Prop) (M : Sto) : Option Key → Option Nd → Prop
  | some k, some (.dic es) => (valE es k).isSome = true ∧ P (.nx G) (updM M p (.dic (dropE es k)))
  | _, _ => False
def ddK2 (G : List Sl) (P : Ot → Sto → Prop) (o : D) : D → Sto → Prop := fun k M => match o with
  | .ptr p => ddF p G P M (keyOf k) (M p)
  | _ => False
def ddK1 (k : WE) (G : List Sl) (P : Ot → Sto → Prop) : D → Sto → Prop := fun o M => k M G (ddK2 G P o) (exP P G)
def wDDel (o k : WE) : WS := fun M G P => o M G (ddK1 k G P) (exP P G)
/-- a place of a list -/
def slF (p : Addr) (d : D) (G : List Sl) (P : Ot → Sto → Prop) (M : Sto) : D → Option Nd → Prop
  | .int i, some (.lst l) => match ixN l.length i with
    | some j => P (.nx G) (updM M p (.lst (l.set j d)))
    | none => False
  | _, _ => False
def slsK3 (G : List Sl) (P : Ot → Sto → Prop) (d o : D) : D → Sto → Prop := fun i M => match o with
  | .ptr p => slF p d G P M i (M p)
  | _ => False
def slsK2 (k : WE) (G : List Sl) (P : Ot → Sto → Prop) (d : D) : D → Sto → Prop := fun o M => k M G (slsK3 G P d o) (exP P G)
def slsK1 (o k : WE) (G : List Sl) (P : Ot → Sto → Prop) : D → Sto → Prop := fun d M => o M G (slsK2 k G P d) (exP P G)
def wSetL (o k e : WE) : WS := fun M G P => e M G (slsK1 o k G P) (exP P G)
/-- a loop, by what holds at each turn -/
def loopK (J : Sto → List Sl → Prop) (P : Ot → Sto → Prop) : Ot → Sto → Prop
  | .nx G, M => J M G
  | .ct G, M => J M G
  | .bk G, M => P (.nx G) M
  | o, M => P o M
def forT (b : WS) (J : Sto → List Sl → Prop) (P : Ot → Sto → Prop) (M : Sto) : List Sl → Prop := fun G => b M G (loopK J P)
def forK (g : WG) (b : WS) (G : List Sl) (P : Ot → Sto → Prop) : List D → (Sto → Prop) → Sto → Prop := fun items gd M => ∃ I : Nat → Sto → List Sl → Prop, I 0 M G ∧
  (∀ i M G d, items[i]? = some d → I i M G → gd M ∧ g d G (forT b (I (i + 1)) P M)) ∧ ∀ M G, I items.length M G → gd M ∧ P (.nx G) M
def wFor (it : WI) (g : WG) (b : WS) : WS := fun M G P => it M G (forK g b G P) (exP P G)
def whK (b : WS) (G : List Sl) (I : Nat → Sto → List Sl → Prop) (m : Nat) (P : Ot → Sto → Prop) : Bool → Sto → Prop := fun x M => if x = true then b M G (loopK (fun M G => ∃ m', m' < m ∧ I m' M G) P) else P (.nx G) M
def wWhile (t : WT) (b : WS) : WS := fun M G P => ∃ I : Nat → Sto → List Sl → Prop, (∃ m, I m M G) ∧ ∀ m M G, I m M G → t M G (whK b G I m P) (exP P G)
/-- a try whose one handler keeps the error under another name -/
def tryK (K : PySem.W.Frag) (c : Value) (i m : Nat) (P : Ot → Sto → Prop) : Ot → Sto → Prop
  | .ex C G, M => i < G.length ∧ PySem.W.exmOne K (.ref C) c = some true ∧ P (.nx ((G.set m (.dat (.exc C))).set i .no)) M
  | o, M => P o M
def wTry (K : PySem.W.Frag) (c : Value) (i m : Nat) (b : WS) : WS := fun M G P => b M G (tryK K c i m P)
/-- a dict that is gone through -/
def lockK (p : Addr) (od : Obj) (kvs : List (Key × V)) (es : List (Key × D)) (P : Ot → Sto → Prop) : Ot → Sto → Prop := fun o M => match o with
  | .ex C G => P (.ex C G) M
  | o => M p = some (.dicL od kvs es) ∧ P o (updM M p (.dic es))
def wLock (b : WS) : WS := fun M G P => ∃ p es, M p = some (.dic es) ∧ ∀ od kvs, b (updM M p (.dicL od kvs es)) G (lockK p od kvs es P)
def lockEK (p : Addr) (od : Obj) (kvs : List (Key × V)) (es : List (Key × D)) (P : D → Sto → Prop) : D → Sto → Prop := fun d M => M p = some (.dicL od kvs es) ∧ P d (updM M p (.dic es))
def wLockE (b : WE) : WE := fun M G P R => ∃ p es, M p = some (.dic es) ∧ ∀ od kvs, b (updM M p (.dicL od kvs es)) G (lockEK p od kvs es P) R
section
variable {K : PySem.W.Frag} {H0 F0 F F' H H' : Hp} {M M' : Sto} {σ : L2.St} {G G' : List Sl}
theorem rom_put (E : RoM K H0 F0 F M H) {a : Addr} {n n' : Nd} (h : M a = some n) {o' : HO} (r : BearN K F o' n') : RoM K H0 F0 F (updM M a n') (upd H a o') := by
  obtain ⟨h1, o, h2, h3⟩ := E.st a n h
  have h4 := E.h0 a n h
  refine ⟨⟨fun z u q => ?_, fun z u q => ?_, E.ro.e1, E.ro.nf⟩, fun b m q => ?_, fun b m q => ?_⟩
  · have hne : z ≠ a := fun y => by
      subst y
      rw [h4] at q
      cases q
    rw [upd_ne hne]
    exact E.ro.e0 z u q
  · have hne : z ≠ a := fun y => by
      subst y
      rw [h1] at q
      cases q
    rw [upd_ne hne]
    exact E.ro.ef z u q
  · by_cases hb : b = a
    · subst hb
      rw [updM_same] at q
      cases q
      exact ⟨h1, o', upd_same, r⟩
    · rw [updM_ne hb] at q
      obtain ⟨k1, u, k2, k3⟩ := E.st b m q
      exact ⟨k1, u, by rw [upd_ne hb]; exact k2, k3⟩
  · by_cases hb : b = a
    · subst hb
      exact h4
    · rw [updM_ne hb] at q
      exact E.h0 b m q
theorem rom_of (E : EnM K H0 F0 F M H σ G) : RoM K H0 F0 F M H := E.rom
def bSeq (a b : BS K) : BS K := ⟨fun X => tSeq (a.t X) (b.t X), wSeq a.w b.w, ⟨fun {M G P} k {H0 F0 F H σ} E X D q => a.ok.run k E X _ fun o M1 k1 => by
  cases o with
  | nx G1 => exact fun σ1 F1 H1 E1 f1 => b.ok.run k1 E1 X D fun o M2 k2 => (q o M2 k2).weak f1
  | rt d => exact q _ M1 k1
  | ex C G1 => exact q _ M1 k1
  | bk G1 => exact q _ M1 k1
  | ct G1 => exact q _ M1 k1⟩⟩
theorem ex_ok {P : Ot → Sto → Prop} {X : FX} {D : Ends} (q : ∀ o M', P o M' → PostW K H0 F0 F o M' X D) : ∀ C M', exP P G C M' → ∀ F' H', EnM K H0 F0 F' M' H' σ G → Ex F F' → X σ (.ref C) none H' := fun C M' k F' H' E f => q _ M' k σ F' H' E f
def bAsg (e : BE K) (g : BG K) : BS K := ⟨fun X => tAsg (e.t X) g.g, wAsg e.w g.w, ⟨fun {M G P} k {H0 F0 F H σ} E X D q => e.ok.run k E X _ (fun d M1 k1 v F1 H1 E1 f1 r1 => g.ok k1 E1 r1 _ fun G2 k2 σ2 E2 => q _ M1 k2 σ2 F1 H1 E2 f1) (ex_ok q)⟩⟩
def bPar (i j : Nat) (a : BA K) : BS K := ⟨fun X => tPar i j (a.t X), wPar i j a.w, ⟨fun {M G P} k {H0 F0 F H σ} E X D q => a.ok.run k E X _ (fun ds M1 k1 vs F1 H1 E1 f1 r1 => by
  match ds, k1 with
  | [c, e], k1 =>
    obtain ⟨v, w, rfl, r2, r3⟩ := rpa2 r1
    exact ⟨v, w, rfl, q _ M1 k1 _ F1 H1 ((E1.setD r2 i).setD r3 j) f1⟩) (ex_ok q)⟩⟩
def bRet (e : BE K) : BS K := ⟨fun X => tRet (e.t X), wRet e.w, ⟨fun {M G P} k {H0 F0 F H σ} E X D q => e.ok.run k E X _ (fun d M1 k1 v F1 H1 E1 f1 r1 => q _ M1 k1 v F1 H1 E1.rom f1 r1) (ex_ok q)⟩⟩
theorem less_at (E : EnM K H0 F0 F M H σ G) {p : Addr} {l : List D} (h : M p = some (.lst l)) : ∃ F', EnM K H0 F0 F' (lessM M p) H σ G ∧ Ex F F' ∧ Rp K F' (.ref p) (.lst l) := by
  obtain ⟨xs, h1, h2⟩ := cell_lst E h
  obtain ⟨hF, _⟩ := E.st p _ h
  have E1 := E.less (M1 := lessM M p) fun a n q => by
    by_cases ha : a = p
    · subst ha
      unfold lessM at q
      rw [if_pos rfl] at q
      cases q
    · rw [lessM_ne ha] at q
      exact q
  have ef : Ex F (upd F p (.lst xs)) := Ex.new hF
  refine ⟨upd F p (.lst xs), E1.addF hF h1 (E.h0 p _ h) (if_pos rfl) (fun i w q e => ?_), ef, .lst upd_same (h2.mono ef)⟩
  have := E.ow i w p q e
  rw [h] at this
  cases this
def bRetF (e : BE K) : BS K := ⟨fun X => tRet (e.t X), wRetF e.w, ⟨fun {M G P} k {H0 F0 F H σ} E X D q => e.ok.run k E X _ (fun d M1 k1 v F1 H1 E1 f1 r1 => by
  cases d with
  | ptr p =>
    cases r1
    have k1' : (match M1 p with
      | some (.lst l) => P (.rt (.lst l)) (lessM M1 p)
      | _ => False) := k1
    cases y : M1 p with
    | none => rw [y] at k1'; exact k1'.elim
    | some n =>
      rw [y] at k1'
      cases n with
      | lst l =>
        obtain ⟨F2, E2, f2, r2⟩ := less_at E1 y
        exact q _ _ k1' _ F2 H1 E2.rom (f1.trans f2) r2
      | _ => exact k1'.elim
  | _ => exact q _ M1 k1 v F1 H1 E1.rom f1 r1) (ex_ok q)⟩⟩
def bRetN : BS K := ⟨fun _ => tRetN, wRetN, ⟨fun {M G P} k {H0 F0 F H σ} E X D q => q _ M k .non F H E.rom (Ex.refl F) .non⟩⟩
def bDrop (e : BE K) : BS K := ⟨fun X => tDrop (e.t X), wDrop e.w, ⟨fun {M G P} k {H0 F0 F H σ} E X D q => e.ok.run k E X _ (fun d M1 k1 v F1 H1 E1 f1 r1 => q _ M1 k1 σ F1 H1 E1 f1) (ex_ok q)⟩⟩
def bNext : BS K := ⟨fun _ => tNext, wNext, ⟨fun {M G P} k {H0 F0 F H σ} E X D q => q _ M k σ F H E (Ex.refl F)⟩⟩
def bBrk : BS K := ⟨fun _ => tBreak, wBrk, ⟨fun {M G P} k {H0 F0 F H σ} E X D q => q _ M k σ F H E (Ex.refl F)⟩⟩
def bCont : BS K := ⟨fun _ => tCont, wCont, ⟨fun {M G P} k {H0 F0 F H σ} E X D q => q _ M k σ F H E (Ex.refl F)⟩⟩
def tRaiseW (C : Addr) (X : FX) : TS := fun _ σ H => X σ (.ref C) none H
def bRaise (C : Addr) : BS K := ⟨fun X => tRaiseW C X, wRaise C, ⟨fun {M G P} k {H0 F0 F H σ} E X D q => q _ M k σ F H E (Ex.refl F)⟩⟩
def bIf (t : BT K) (a b : BS K) : BS K := ⟨fun X => tIfS (t.t X) (a.t X) (b.t X), wIf t.w a.w b.w, ⟨fun {M G P} k {H0 F0 F H σ} E X D q => t.ok.run k E X _ (fun x M1 k1 F1 H1 E1 f1 => by
  have k1' : if x = true then a.w M1 G P else b.w M1 G P := k1
  cases x with
  | true =>
    rw [if_pos rfl] at k1' ⊢
    exact a.ok.run k1' E1 X D fun o M2 k2 => (q o M2 k2).weak f1
  | false =>
    rw [if_neg Bool.false_ne_true] at k1' ⊢
    exact b.ok.run k1' E1 X D fun o M2 k2 => (q o M2 k2).weak f1) (ex_ok q)⟩⟩
theorem wk_wipe : ∀ (vs : List Nat) (G : List Sl), ∀ (i : Nat) (s : Sl), (wipeG G vs)[i]? = some s → s = .no ∨ G[i]? = some s
  | [], G, i, s, h => .inr h
  | v :: vs, G, i, s, h => by
    have h' : ((wipeG G vs).set v .no)[i]? = some s := h
    by_cases hv : v = i
    · subst hv
      by_cases hl : v < (wipeG G vs).length
      · rw [List.getElem?_set_self hl] at h'
        cases h'
        exact .inl rfl
      · rw [List.getElem?_eq_none (by rw [List.length_set]; omega)] at h'
        cases h'
    · rw [List.getElem?_set_ne hv] at h'
      exact wk_wipe vs G i s h'
theorem wipe_len : ∀ (vs : List Nat) (G : List Sl), (wipeG G vs).length = G.length
  | [], G => rfl
  | v :: vs, G => by
    show ((wipeG G vs).set v .no).length = _
    rw [List.length_set, wipe_len vs G]
theorem fgt_ok (E : EnM K H0 F0 F M H σ G) (vs : List Nat) : EnM K H0 F0 F M H σ (wipeG G vs) :=
  ⟨E.en.forget (wipe_len vs G).symm (wk_wipe vs G), E.st, E.h0, fun i w p h1 h2 => by
    rcases wk_wipe vs G i _ h1 with z | z
    · cases z
    · exact E.ow i w p z h2⟩
def bFgt (vs : List Nat) (a : BS K) : BS K := ⟨a.t, wFgt vs a.w, ⟨fun {M G P} k {H0 F0 F H σ} E X D q => a.ok.run k (fgt_ok E vs) X D q⟩⟩
theorem cell_ins (E : EnM K H0 F0 F M H σ G) {p C : Addr} {fs : List (Str × D)} (h : M p = some (.ins C fs)) : ∃ dx gs, H p = some (.ins C dx gs) ∧ gs.map (fun p => p.1) = fs.map (fun p => p.1) ∧ RpA K F (gs.map fun p => p.2) (fs.map fun p => p.2) := by
  obtain ⟨_, o, k1, k2⟩ := E.st p _ h
  cases k2 with
  | ins k3 k4 => exact ⟨_, _, k1, k3, k4⟩
theorem cell_dic (E : EnM K H0 F0 F M H σ G) {p : Addr} {es : List (Key × D)} (h : M p = some (.dic es)) : ∃ kvs, H p = some (.dK kvs) ∧ kvs.map (fun p => p.1) = es.map (fun p => p.1) ∧ RpA K F (kvs.map fun p => p.2) (es.map fun p => p.2) := by
  obtain ⟨_, o, k1, k2⟩ := E.st p _ h
  cases k2 with
  | dic k3 k4 => exact ⟨_, k1, k3, k4⟩
theorem len_keys {α β γ : Type} {kvs : List (α × β)} {es : List (α × γ)} (h : kvs.map (fun p => p.1) = es.map (fun p => p.1)) : kvs.length = es.length := by
  have := congrArg List.length h
  rw [List.length_map, List.length_map] at this
  exact this
def bFldSet {C : Addr} (hc : Cls K C) (o : BE K) (f : Str) (hn : NoAttr K C f) (e : BE K) : BS K := ⟨fun X => sFld K (o.t X) (e.t X) f, wFldSet C f o.w e.w, ⟨fun {M G P} k {H0 F0 F H σ} E X D q => e.ok.run k E X _ (fun d M1 k1 v F1 H1 E1 f1 r1 => o.ok.run k1 E1 X _ (fun c M2 k2 w F2 H2 E2 f2 r2 => by
  cases c with
  | ptr p =>
    cases r2
    have k2' : fsF C p f d G P M2 (M2 p) := k2
    cases y : M2 p with
    | none => rw [y] at k2'; exact k2'.elim
    | some n =>
      rw [y] at k2'
      cases n with
      | ins C' fs =>
        obtain ⟨rfl, k3, k4⟩ := k2'
        obtain ⟨dx, gs, h1, h2, h3⟩ := cell_ins E2 y
        refine ⟨p, C', _, _, rfl, h1, hc, hn, by rw [len_keys h2]; exact k3, ?_⟩
        obtain ⟨j1, j2⟩ := putF_putD (f := f) (r1.mono f2) h2 h3
        exact q _ _ k4 σ F2 _ (E2.put y (.ins j1 j2)) (f1.trans f2)
      | _ => exact k2'.elim
  | _ => exact k2.elim) fun C M' z F' H' E' f' => ex_ok q C M' z F' H' E' (f1.trans f')) (ex_ok q)⟩⟩
def bDPut (o k e : BE K) : BS K := ⟨fun X => sDPut (o.t X) (k.t X) (e.t X), wDPut o.w k.w e.w, ⟨fun {M G P} z {H0 F0 F H σ} E X D q => e.ok.run z E X _ (fun d M1 k1 v F1 H1 E1 f1 r1 => o.ok.run k1 E1 X _ (fun c M2 k2 w F2 H2 E2 f2 r2 => k.ok.run k2 E2 X _ (fun b M3 k3 y F3 H3 E3 f3 r3 => by
  cases c with
  | ptr p =>
    cases r2
    have k3' : dpF p d G P M3 (keyOf b) (M3 p) := k3
    cases u : keyOf b with
    | none => rw [u] at k3'; exact k3'.elim
    | some key =>
      cases y : M3 p with
      | none => rw [u, y] at k3'; exact k3'.elim
      | some n =>
        rw [u, y] at k3'
        cases n with
        | dic es =>
          rw [keyOf_eq u] at r3
          have hu := key_rp r3
          subst hu
          obtain ⟨kvs, h1, h2, h3⟩ := cell_dic E3 y
          obtain ⟨j1, j2⟩ := putE_rp (k := key) (r1.mono (f2.trans f3)) h2 h3
          exact ⟨p, _, rfl, DPut.k h1 (sz_lt (by rw [len_keys h2]; exact k3'.1)), q _ _ k3'.2 σ F3 _ (E3.put y (.dic j1 j2)) ((f1.trans f2).trans f3)⟩
        | _ => exact k3'.elim
  | _ => exact k3.elim) fun C M' z F' H' E' f' => ex_ok q C M' z F' H' E' ((f1.trans f2).trans f')) fun C M' z F' H' E' f' => ex_ok q C M' z F' H' E' (f1.trans f')) (ex_ok q)⟩⟩
def bDDel (o k : BE K) : BS K := ⟨fun X => sDDel (o.t X) (k.t X), wDDel o.w k.w, ⟨fun {M G P} z {H0 F0 F H σ} E X D q => o.ok.run z E X _ (fun c M2 k2 w F2 H2 E2 f2 r2 => k.ok.run k2 E2 X _ (fun b M3 k3 y F3 H3 E3 f3 r3 => by
  cases c with
  | ptr p =>
    cases r2
    have k3' : ddF p G P M3 (keyOf b) (M3 p) := k3
    cases u : keyOf b with
    | none => rw [u] at k3'; exact k3'.elim
    | some key =>
      cases y : M3 p with
      | none => rw [u, y] at k3'; exact k3'.elim
      | some n =>
        rw [u, y] at k3'
        cases n with
        | dic es =>
          rw [keyOf_eq u] at r3
          have hu := key_rp r3
          subst hu
          obtain ⟨kvs, h1, h2, h3⟩ := cell_dic E3 y
          obtain ⟨j1, j2⟩ := dropE_rp (k := key) h2 h3
          exact ⟨p, _, key, rfl, h1, rfl, by rw [val_some h2 h3]; exact k3'.1, q _ _ k3'.2 σ F3 _ (E3.put y (.dic j1 j2)) (f2.trans f3)⟩
        | _ => exact k3'.elim
  | _ => exact k3.elim) fun C M' z F' H' E' f' => ex_ok q C M' z F' H' E' (f2.trans f')) (ex_ok q)⟩⟩
def bSetL (o k e : BE K) : BS K := ⟨fun X => tAsg (e.t X) (gSub (o.t X) (k.t X) rSetL), wSetL o.w k.w e.w, ⟨fun {M G P} z {H0 F0 F H σ} E X D q => e.ok.run z E X _ (fun d M1 k1 v F1 H1 E1 f1 r1 => o.ok.run k1 E1 X _ (fun c M2 k2 w F2 H2 E2 f2 r2 => k.ok.run k2 E2 X _ (fun b M3 k3 y F3 H3 E3 f3 r3 => by
  cases c with
  | ptr p =>
    cases r2
    have k3' : slF p d G P M3 b (M3 p) := k3
    cases b with
    | int i =>
      cases r3
      cases y : M3 p with
      | none => rw [y] at k3'; exact k3'.elim
      | some n =>
        rw [y] at k3'
        cases n with
        | lst l =>
          have k4 : (match ixN l.length i with
            | some j => P (.nx G) (updM M3 p (.lst (l.set j d)))
            | none => False) := k3'
          cases u : ixN l.length i with
          | none => rw [u] at k4; exact k4.elim
          | some j =>
            rw [u] at k4
            obtain ⟨xs, h1, h2⟩ := cell_lst E3 y
            exact ⟨p, xs, i, j, rfl, rfl, h1, by rw [h2.length]; exact u, q _ _ k4 σ F3 _ (E3.put y (.lst (h2.set (r1.mono (f2.trans f3)) j))) ((f1.trans f2).trans f3)⟩
        | _ => exact k3'.elim
    | _ => exact k3'.elim
  | _ => exact k3.elim) fun C M' z F' H' E' f' => ex_ok q C M' z F' H' E' ((f1.trans f2).trans f')) fun C M' z F' H' E' f' => ex_ok q C M' z F' H' E' (f1.trans f')) (ex_ok q)⟩⟩
def bFor (it : BI K) (g : BG K) (b : BS K) : BS K := ⟨fun X => tFor (it.t X) g.g (b.t X), wFor it.w g.w b.w, ⟨fun {M G P} z {H0 F0 F H σ} E X D q => it.ok z E X _ (fun items gd M1 k J F1 H1 E1 f1 wk => by
  obtain ⟨I, i0, is, ie⟩ := k
  let Pv : Nat → L2.St → Hp → Prop := fun i σ' H' => ∃ F' M' G', EnM K H0 F0 F' M' H' σ' G' ∧ Ex F1 F' ∧ I i M' G'
  refine ⟨fun i m σ' H' => m = items.length - i ∧ i ≤ items.length ∧ Pv i σ' H', ⟨_, rfl, Nat.zero_le _, F1, M1, G, E1, Ex.refl _, i0⟩, ?_⟩
  rintro i m σ2 H2 ⟨rfl, hi, F', M', G', E2, f2, hI⟩
  by_cases hlt : i < items.length
  · obtain ⟨hg, hgo⟩ := is i M' G' items[i] (List.getElem?_eq_getElem hlt) hI
    have gx := wk.go F' M' H2 f2 E2.st E2.en.ef hg
    refine .inr ⟨gx.1 i hlt, fun σ' H' => i + 1 ≤ items.length ∧ Pv (i + 1) σ' H', fun σ' H' p => ⟨items.length - (i + 1), by omega, rfl, p.1, p.2⟩, fun x H3 y => ?_⟩
    obtain ⟨F3, d, k1, k2, k3, k4, hd, r3⟩ := wk.yl F' M' H2 i x H3 f2 E2.st E2.en.ef hg hlt y
    rw [List.getElem?_eq_getElem hlt] at hd
    cases hd
    have E3 := E2.grow k1 k2 k3 k4
    refine g.ok hgo E3 r3 _ fun G4 k5 σ4 E4 => ?_
    refine b.ok.run k5 E4 X _ fun o M5 k6 => ?_
    have ff := (f1.trans f2).trans k1
    cases o with
    | nx G6 => exact fun σ6 F6 H6 E6 f6 => ⟨hlt, F6, M5, G6, E6, (f2.trans k1).trans f6, k6⟩
    | ct G6 => exact fun σ6 F6 H6 E6 f6 => ⟨hlt, F6, M5, G6, E6, (f2.trans k1).trans f6, k6⟩
    | bk G6 => exact fun σ6 F6 H6 E6 f6 => q _ M5 k6 σ6 F6 H6 E6 (ff.trans f6)
    | rt d => exact fun v F6 H6 ro f6 r6 => q _ M5 k6 v F6 H6 ro (ff.trans f6) r6
    | ex C G6 => exact fun σ6 F6 H6 E6 f6 => q _ M5 k6 σ6 F6 H6 E6 (ff.trans f6)
  · have e : i = items.length := by omega
    subst e
    obtain ⟨hg, hp⟩ := ie M' G' hI
    exact .inl ⟨(wk.go F' M' H2 f2 E2.st E2.en.ef hg).2, q _ M' hp σ2 F' H2 E2 (f1.trans f2)⟩) (ex_ok q)⟩⟩
def bWhile (t : BT K) (b : BS K) : BS K := ⟨fun X => tWhile (t.t X) (b.t X), wWhile t.w b.w, ⟨fun {M G P} z {H0 F0 F H σ} E X D q => by
  obtain ⟨I, ⟨m0, i0⟩, is⟩ := z
  refine ⟨fun m σ' H' => ∃ F' M' G', EnM K H0 F0 F' M' H' σ' G' ∧ Ex F F' ∧ I m M' G', ⟨m0, F, M, G, E, Ex.refl _, i0⟩, ?_⟩
  rintro m σ2 H2 ⟨F', M', G', E2, f2, hI⟩
  refine t.ok.run (is m M' G' hI) E2 X _ (fun x M3 k3 F3 H3 E3 f3 => ?_) fun C M' z F' H' E' f' => q _ M' z σ2 F' H' E' (f2.trans f')
  have k3' : if x = true then b.w M3 G' (loopK (fun M G => ∃ m', m' < m ∧ I m' M G) P) else P (.nx G') M3 := k3
  cases x with
  | false =>
    rw [if_neg Bool.false_ne_true] at k3' ⊢
    exact q _ M3 k3' σ2 F3 H3 E3 (f2.trans f3)
  | true =>
    rw [if_pos rfl] at k3' ⊢
    refine ⟨fun σ' H' => ∃ m', m' < m ∧ ∃ F' M' G', EnM K H0 F0 F' M' H' σ' G' ∧ Ex F F' ∧ I m' M' G', fun σ' H' p => p, ?_⟩
    refine b.ok.run k3' E3 X _ fun o M5 k6 => ?_
    have ff := f2.trans f3
    cases o with
    | nx G6 =>
      obtain ⟨m', h1, h2⟩ := k6
      exact fun σ6 F6 H6 E6 f6 => ⟨m', h1, F6, M5, G6, E6, ff.trans f6, h2⟩
    | ct G6 =>
      obtain ⟨m', h1, h2⟩ := k6
      exact fun σ6 F6 H6 E6 f6 => ⟨m', h1, F6, M5, G6, E6, ff.trans f6, h2⟩
    | bk G6 => exact fun σ6 F6 H6 E6 f6 => q _ M5 k6 σ6 F6 H6 E6 (ff.trans f6)
    | rt d => exact fun v F6 H6 ro f6 r6 => q _ M5 k6 v F6 H6 ro (ff.trans f6) r6
    | ex C G6 => exact fun σ6 F6 H6 E6 f6 => q _ M5 k6 σ6 F6 H6 E6 (ff.trans f6)⟩⟩
def tTryW (K : PySem.W.Frag) (c : Value) (i m : Nat) (tb : FX → TS) : TS := fun D σ H => tb (L2.WE (wKept K c i (fun _ _ _ => tAsg (tVar i) (gName m)) (fun _ _ _ _ => False) D)) D σ H
def bTry (c : Value) (i m : Nat) (him : i ≠ m) (b : BS K) : BS K := ⟨fun _ => tTryW K c i m b.t, wTry K c i m b.w, ⟨fun {M G P} z {H0 F0 F H σ} E X D q => b.ok.run z E _ D fun o M1 k1 => by
  cases o with
  | nx G1 => exact q _ M1 k1
  | rt d => exact q _ M1 k1
  | bk G1 => exact q _ M1 k1
  | ct G1 => exact q _ M1 k1
  | ex C G1 =>
    obtain ⟨hi, hc, k2⟩ := k1
    refine fun σ1 F1 H1 E1 f1 => ⟨true, hc, fun _ a ha => ?_, fun q => nomatch q⟩
    have hl : i < σ1.length := by
      rw [E1.en.len]
      exact hi
    refine ⟨.ref a, List.getElem?_set_self hl, ?_⟩
    have hF : F1 a = none := ex_none E1.en.ef ha
    have ef : Ex F1 (upd F1 a (ExK (.ref C) none a)) := Ex.new hF
    have E2 := E1.grow ef (Ex.new ha) (ex_upd_both E1.en.ef) (nw_upd ha (Nw.refl F1 H1))
    have E3 := (E2.setD (v := .ref a) (d := .exc C) (.exc upd_same) m).setN i
    have e : ((σ1.set i (some (.ref a))).set m (some (.ref a))).set i none = (σ1.set m (some (.ref a))).set i none := by
      rw [List.set_comm _ _ him, List.set_set]
    show D.nx (((σ1.set i (some (.ref a))).set m (some (.ref a))).set i none) (upd H1 a (ExK (.ref C) none a))
    rw [e]
    exact q _ _ k2 _ _ _ E3 (f1.trans ef)⟩⟩
def bLock (b : BS K) : BS K := ⟨fun X => tLock (b.t X), wLock b.w, ⟨fun {M G P} z {H0 F0 F H σ} E X D q => by
  obtain ⟨p, es, hp, z⟩ := z
  obtain ⟨kvs, h1, h2, h3⟩ := cell_dic E hp
  refine ⟨p, .dK kvs, h1, trivial, fun od => ?_⟩
  refine b.ok.run (z od kvs) (E.put hp (.dicL h2 h3)) X _ fun o M1 k1 => ?_
  have un : ∀ {F1 H1 : Hp}, Cells K F1 M1 H1 → M1 p = some (.dicL od kvs es) → H1 p = some (.frz od (.dK kvs)) ∧ BearN K F1 (.dK kvs) (.dic es) := fun {F1 H1} c h => by
    obtain ⟨j1, j2, j3⟩ := lock_at (H0 := H0) (F0 := F0) c h
    exact ⟨j1, .dic j2 j3⟩
  cases o with
  | nx G1 =>
    intro σ1 F1 H1 E1 f1
    obtain ⟨a, b⟩ := un E1.st k1.1
    exact ⟨a, q _ _ k1.2 σ1 F1 _ (E1.put k1.1 b) f1⟩
  | bk G1 =>
    intro σ1 F1 H1 E1 f1
    obtain ⟨a, b⟩ := un E1.st k1.1
    exact ⟨a, q _ _ k1.2 σ1 F1 _ (E1.put k1.1 b) f1⟩
  | ct G1 =>
    intro σ1 F1 H1 E1 f1
    obtain ⟨a, b⟩ := un E1.st k1.1
    exact ⟨a, q _ _ k1.2 σ1 F1 _ (E1.put k1.1 b) f1⟩
  | rt d =>
    intro v F1 H1 ro f1 r1
    obtain ⟨a, b⟩ := un ro.st k1.1
    exact ⟨a, q _ _ k1.2 v F1 _ (rom_put ro k1.1 b) f1 r1⟩
  | ex C G1 => exact fun σ1 F1 H1 E1 f1 => q _ _ k1 σ1 F1 H1 E1 f1⟩⟩
def bLockE (b : BE K) : BE K := ⟨fun X => tLockE (b.t X), wLockE b.w, ⟨fun {M G P R} z {H0 F0 F H σ} E X Q q qx => by
  obtain ⟨p, es, hp, z⟩ := z
  obtain ⟨kvs, h1, h2, h3⟩ := cell_dic E hp
  refine ⟨p, .dK kvs, h1, trivial, fun od => ?_⟩
  refine b.ok.run (z od kvs) (E.put hp (.dicL h2 h3)) X _ (fun d M1 k1 v F1 H1 E1 f1 r1 => ?_) qx
  obtain ⟨j1, j2, j3⟩ := lock_at (H0 := H0) (F0 := F0) E1.st k1.1
  exact ⟨j1, q d _ k1.2 v F1 _ (E1.put k1.1 (.dic j2 j3)) f1 r1⟩⟩⟩
end
end Wp

set_option Elab.async false
set_option linter.all false
set_option maxRecDepth 100000
set_option maxHeartbeats 4000000
namespace Wp
open PySem PySem.Spec PyProof.Rows L2 Evl Cy
/-! more of the built-in: new lists that change later, repr, isinstance of what was caught -/
section
variable {K : PySem.W.Frag}
def catAK (P : D → Sto → Prop) (M : Sto) : Option (List D) → Option (List D) → Prop
  | some l, some m => l.length + m.length ≤ 100000 ∧ newK P M (.lst (l ++ m))
  | _, _ => False
def addAK2 (P : D → Sto → Prop) (d : D) : D → Sto → Prop := fun c M => catAK P M (dl M d) (dl M c)
def addAK1 (b : WE) (G : List Sl) (P : D → Sto → Prop) (R : Addr → Sto → Prop) : D → Sto → Prop := fun d M => b M G (addAK2 P d) R
def wAddA (a b : WE) : WE := fun M G P R => a M G (addAK1 b G P R) R
def bAddA (a b : BE K) : BE K := ⟨fun X => tOp (gAdd K) (a.t X) (b.t X), wAddA a.w b.w, ⟨fun {M G P R} k {H0 F0 F H σ} E X Q q qx =>
  a.ok.run k E X _ (fun d M1 k1 v F1 H1 E1 f1 r1 => b.ok.run k1 E1 X _ (fun c M2 k2 w F2 H2 E2 f2 r2 => by
    have r1' := r1.mono f2
    have k2' : catAK P M2 (dl M2 d) (dl M2 c) := k2
    cases ha : dl M2 d with
    | none => rw [ha] at k2'; exact k2'.elim
    | some l =>
      cases hb : dl M2 c with
      | none => rw [ha, hb] at k2'; exact k2'.elim
      | some m =>
        rw [ha, hb] at k2'
        obtain ⟨_, xs, rfl, h1, h2⟩ := dl_at E2 r1' ha
        obtain ⟨_, ys, rfl, h3, h4⟩ := dl_at E2 r2 hb
        exact Or.inr (Or.inr ⟨_, _, _, _, rfl, rfl, h1, h3, sz_of (by rw [h2.length, h4.length]; exact k2'.1), fun p hp => q _ _ (k2'.2 p (E2.free hp)) _ _ _ (alloc E2 hp (.lst (h2.app h4))) (f1.trans f2) (.ptr p)⟩)) fun C M' z F2 H2 E2 f2 => qx C M' z F2 H2 E2 (f1.trans f2)) fun C M' z F1 H1 E1 f1 => qx C M' z F1 H1 E1 f1⟩⟩
def fSortSA : WB := fun P ds M => match ds with
  | [d] => strsK (fun ns => ns.length < 64 ∧ newK P M (.lst ((srtS ns).map D.str))) (dl M d)
  | _ => False
theorem sSortSA : SB K (rSortedS K) fSortSA := ⟨fun {M P ds} k {H0 F0 F H σ G} E {vs} rv Q q => by
  match ds, k with
  | [d], k =>
    obtain ⟨ns, h1, h2, h5⟩ := strsK_eq k
    obtain ⟨v, rfl, r1⟩ := rpa1 rv
    obtain ⟨a, xs, rfl, h3, h4⟩ := dl_at E r1 h1
    have e := h4.strs
    subst e
    refine ⟨_, ns, rfl, sq_of h3, h2, fun ys p hp hs hF => ?_⟩
    have e : ys = srtS ns := sorted_one hs (srt_ok ns) (hp.trans (srt_perm ns).symm)
    subst e
    exact q _ _ (h5 p (E.free hF)) _ _ _ (alloc E hF (.lst (rpa_strs _))) (Ex.refl F) (.ptr p)⟩
def fSortDA : WB := fun P ds M => match ds with
  | [d] => keysK (fun ns => ns.length < 64 ∧ newK P M (.lst ((srtS ns).map D.str))) (dd M d)
  | _ => False
theorem sSortDA : SB K (rSortedD K) fSortDA := ⟨fun {M P ds} k {H0 F0 F H σ G} E {vs} rv Q q => by
  match ds, k with
  | [d], k =>
    obtain ⟨v, rfl, r1⟩ := rpa1 rv
    obtain ⟨es, ns, z, y, k1, k2⟩ := keysK_eq k
    obtain ⟨a, kvs, rfl, h1, h2, h3⟩ := dd_at E r1 z
    refine ⟨_, kvs, ns, rfl, h1, by rw [h2, y], k1, fun ys p hp hs hF => ?_⟩
    have e : ys = srtS ns := sorted_one hs (srt_ok ns) (hp.trans (srt_perm ns).symm)
    subst e
    exact q _ _ (k2 p (E.free hF)) _ _ _ (alloc E hF (.lst (rpa_strs _))) (Ex.refl F) (.ptr p)⟩
/-- dict(d), a copy -/
def fDictD : WB := fun P ds M => match ds with
  | [d] => match dd M d with
    | some es => newK P M (.dic es)
    | none => False
  | _ => False
theorem sDictD : SB K (rDictD K) fDictD := ⟨fun {M P ds} k {H0 F0 F H σ G} E {vs} rv Q q => by
  match ds, k with
  | [d], k =>
    obtain ⟨v, rfl, r1⟩ := rpa1 rv
    have k' : (match dd M d with
      | some es => newK P M (.dic es)
      | none => False) := k
    cases z : dd M d with
    | none => rw [z] at k'; exact k'.elim
    | some es =>
      rw [z] at k'
      obtain ⟨a, kvs, rfl, h1, h2, h3⟩ := dd_at E r1 z
      exact ⟨a, kvs, rfl, h1, fun p hp => q _ _ (k' p (E.free hp)) _ _ _ (alloc E hp (.dic h2 h3)) (Ex.refl F) (.ptr p)⟩⟩
/-- dict of a row of pairs -/
def pairsOf : List D → Option (List (Key × D))
  | [] => some []
  | .tup [k, d] :: r => match keyOf k, pairsOf r with
    | some k, some es => some ((k, d) :: es)
    | _, _ => none
  | _ => none
theorem pairsOf_item (es : List (Key × D)) : pairsOf (es.map itemD) = some es := by
  induction es with
  | nil => rfl
  | cons p es ih =>
    obtain ⟨k, d⟩ := p
    show (match keyOf (keyD k), pairsOf (es.map itemD) with
      | some k, some es => some ((k, d) :: es)
      | _, _ => none) = _
    rw [ih]
    cases k <;> rfl
theorem pairsOf_eq : ∀ {l : List D} {es : List (Key × D)}, pairsOf l = some es → l = es.map itemD
  | [], es, h => by cases h; rfl
  | d :: r, es, h => by
    match d, h with
    | .tup [k, e], h =>
      have h' : (match keyOf k, pairsOf r with
        | some k, some es => some ((k, e) :: es)
        | _, _ => none) = some es := h
      cases z : keyOf k with
      | none => rw [z] at h'; cases h'
      | some kk =>
        cases y : pairsOf r with
        | none => rw [z, y] at h'; cases h'
        | some fs =>
          rw [z, y] at h'
          cases h'
          rw [pairsOf_eq y, keyOf_eq z]
          rfl
def pairsK (k : List (Key × D) → Prop) : Option (List D) → Prop
  | some l => match pairsOf l with
    | some es => k es
    | none => False
  | none => False
theorem pairsK_eq {k : List (Key × D) → Prop} {o : Option (List D)} (h : pairsK k o) : ∃ es, o = some (es.map itemD) ∧ k es := by
  cases o with
  | none => exact h.elim
  | some l =>
    have h' : (match pairsOf l with
      | some es => k es
      | none => False) := h
    cases z : pairsOf l with
    | none => rw [z] at h'; exact h'.elim
    | some es =>
      rw [z] at h'
      exact ⟨es, by rw [pairsOf_eq z], h'⟩
theorem pairsK_item {k : List (Key × D) → Prop} (es : List (Key × D)) : pairsK k (some (es.map itemD)) = k es := by
  show (match pairsOf (es.map itemD) with
    | some es => k es
    | none => False) = _
  rw [pairsOf_item]
def fDictP : WB := fun P ds M => match ds with
  | [d] => pairsK (fun es => (es.map fun p => p.1).Nodup ∧ newK P M (.dic es)) (dl M d)
  | _ => False
theorem rpa_items {F H : Hp} (e : Ex F H) : ∀ {es : List (Key × D)} {xs : List V}, RpA K F xs (es.map itemD) → ∃ (ps : List Addr) (kvs : List (Key × V)), xs = ps.map V.ref ∧ Paired (fun p kv => SqT K H p [kV kv.1, kv.2]) ps kvs ∧ kvs.map (fun p => p.1) = es.map (fun p => p.1) ∧ RpA K F (kvs.map fun p => p.2) (es.map fun p => p.2)
  | [], xs, h => by
    cases h
    exact ⟨[], [], rfl, .nil, rfl, .nil⟩
  | q :: es, xs, h => by
    cases h with
    | cons r1 r2 =>
      obtain ⟨ps, kvs, rfl, h2, h3, h4⟩ := rpa_items e r2
      have r1' : Rp K F _ (.tup [keyD q.1, q.2]) := r1
      cases r1' with
      | tup h5 h6 =>
        cases h6 with
        | cons r3 r4 =>
          cases r4 with
          | cons r5 r6 =>
            cases r6
            have e3 := key_rp r3
            subst e3
            exact ⟨_ :: ps, (q.1, _) :: kvs, rfl, .cons (st_of (e _ _ h5)) h2, by rw [List.map_cons, List.map_cons, h3], .cons r5 h4⟩
theorem sDictP : SB K (rDictP K) fDictP := ⟨fun {M P ds} k {H0 F0 F H σ G} E {vs} rv Q q => by
  match ds, k with
  | [d], k =>
    obtain ⟨v, rfl, r1⟩ := rpa1 rv
    obtain ⟨es, h1, h2, h3⟩ := pairsK_eq k
    obtain ⟨a, xs, rfl, h4, h5⟩ := dl_at E r1 h1
    obtain ⟨ps, kvs, rfl, h6, h7, h8⟩ := rpa_items E.en.ef h5
    refine ⟨a, ps, kvs, rfl, sq_of h4, h6, fun p hp => ?_⟩
    rw [mergeK_nodup (by rw [List.nil_append, h7]; exact h2), List.nil_append]
    exact q _ _ (h3 p (E.free hp)) _ _ _ (alloc E hp (.dic h7 h8)) (Ex.refl F) (.ptr p)⟩
/-- what repr tells -/
def Shows (d : D) : Prop := ∃ t : Str, ∀ K : PySem.W.Frag, OpN K (gReprA K) [d] (.str t)
open Classical in
noncomputable def shw (d : D) : Str := if h : Shows d then Classical.choose h else Str.empty
theorem shw_at {d : D} (h : Shows d) : ∀ K : PySem.W.Frag, OpN K (gReprA K) [d] (.str (shw d)) := by
  unfold shw
  rw [dif_pos h]
  exact Classical.choose_spec h
noncomputable def fRepr : WB := fun P ds M => match ds with
  | [d] => Shows (see M d) ∧ P (.str (shw (see M d))) M
  | _ => False
theorem sRepr : SB K (gReprA K) fRepr := ⟨fun {M P ds} k {H0 F0 F H σ G} E {vs} rv Q q => by
  match ds, k with
  | [d], k => exact sb_see (shw_at k.1 K) k.2 rfl E rv q⟩
/-- isinstance(e, C) of what was caught, or of anything else -/
def iskK (K : PySem.W.Frag) (cv : Value) (P : D → Sto → Prop) : D → Sto → Prop
  | .exc C, M => ExcC K C ∧ ∃ b, PySem.W.kitOne K (.ref C) cv = some b ∧ P (.bl b) M
  | _, _ => False
def wIsk (K : PySem.W.Frag) (cv : Value) (a : WE) : WE := fun M G P R => a M G (iskK K cv P) R
def bIsk (v : V) (cv : Value) (hv : ∀ u, RelV v u → u = cv) (a : BE K) : BE K := ⟨fun X => tCB (gIsi K) (tCons (a.t X) (tCons (tC v) tNil)), wIsk K cv a.w, ⟨fun {M G P R} z {H0 F0 F H σ} E X Q q qx => a.ok.run z E X _ (fun d M1 k1 w F1 H1 E1 f1 r1 => by
  cases d with
  | exc C =>
    obtain ⟨hx, b, hk, hp⟩ := k1
    cases r1 with
    | exc h1 => exact Or.inl ⟨_, C, v, cv, b, rfl, E1.en.ef _ _ h1, hx, hv, hk, q _ M1 hp _ F1 H1 E1 f1 (.bl _)⟩
  | _ => exact k1.elim) qx⟩⟩
end
/-! the defs -/
def outX (r : Res) : Ot → Sto → Prop
  | .rt d, _ => r = .ok d
  | .nx _, _ => r = .ok .non
  | .ex C _, _ => r = .exc C
  | _, _ => False
def outO (l : List D) : Ot → Sto → Prop
  | .rt (.ptr p), M => M p = some (.lst l)
  | _, _ => False
def outM (Pr : Res → Sto → Prop) : Ot → Sto → Prop
  | .rt d, M => Pr (.ok d) M
  | .nx _, M => Pr (.ok .non) M
  | .ex C _, M => Pr (.exc C) M
  | _, _ => False
def outI (Pr : Res → Sto → Prop) : Ot → Sto → Prop
  | .nx _, M => Pr (.ok .non) M
  | .ex C _, M => Pr (.exc C) M
  | _, _ => False
def noM : Sto := fun _ => none
section
variable {K : PySem.W.Frag}
theorem no_cells {F H : Hp} : Cells K F noM H := fun a n h => nomatch h
theorem start_M {N : List Str} {vs : List V} {ds : List D} {F H : Hp} {M : Sto} (e : Ex F H) (ra : RpA K F vs ds) (hn : ds.length ≤ N.length) (c : Cells K F M H) : EnM K (unseen M H) F F M H (L2.start N vs) (args N.length ds) := by
  have E0 := start_en e ra hn
  exact ⟨⟨E0.dat, fun i w z => absurd z args_own, E0.dis, unseen_le, e, Ex.refl F, fun a o z => .inl z, E0.len⟩, c, fun a n z => unseen_some z, fun i w p z => absurd z args_own⟩
theorem unseen_no {H : Hp} : unseen noM H = H := by
  funext a
  rfl
theorem body_WX {N : List Str} {T : List D → Res → Prop} {vs : List V} {H : Hp} {Q : VK} {E : XK} {b : BS K} (h : spX K T vs H Q E) (hn : ∀ ds r, T ds r → ds.length ≤ N.length) (hb : ∀ ds r, T ds r → b.w noM (args N.length ds) (outX r)) :
    b.t (fun _ => E) { nx := fun _ H' => Q .non H', rt := Q } (L2.start N vs) H := by
  obtain ⟨F, ds, r, e, ra, hR, q⟩ := h
  have E1 := start_M (M := noM) e ra (hn ds r hR) no_cells
  rw [unseen_no] at E1
  refine b.ok.run (hb ds r hR) E1 _ _ fun o M' z => ?_
  cases o with
  | nx G =>
    have z' : r = .ok .non := z
    subst z'
    exact fun σ F' H' E' f' => q .non F' H' E'.rom.ro .non
  | rt d =>
    have z' : r = .ok d := z
    subst z'
    exact fun v F' H' ro f' r1 => q v F' H' ro.ro r1
  | ex C G =>
    have z' : r = .exc C := z
    subst z'
    exact fun σ F' H' E' f' => q F' H' E'.rom.ro
  | bk G => exact z.elim
  | ct G => exact z.elim
theorem body_WO {N : List Str} {T : List D → List D → Prop} {vs : List V} {H : Hp} {Q : VK} {E : XK} {b : BS K} (h : spO K T vs H Q E) (hn : ∀ ds r, T ds r → ds.length ≤ N.length) (hb : ∀ ds r, T ds r → b.w noM (args N.length ds) (outO r)) :
    b.t (fun _ => E) { nx := fun _ H' => Q .non H', rt := Q } (L2.start N vs) H := by
  obtain ⟨F, ds, l, e, ra, hR, q⟩ := h
  have E1 := start_M (M := noM) e ra (hn ds l hR) no_cells
  rw [unseen_no] at E1
  refine b.ok.run (hb ds l hR) E1 _ _ fun o M' z => ?_
  cases o with
  | rt d =>
    cases d with
    | ptr p =>
      have z' : M' p = some (.lst l) := z
      intro v F' H' ro f' r1
      cases r1
      obtain ⟨h1, o, h2, h3⟩ := ro.st p _ z'
      cases h3 with
      | lst h4 => exact q p _ F' H' ro.ro (ro.h0 p _ z') h1 h2 h4
    | _ => exact z.elim
  | _ => exact z.elim
theorem body_WM {N : List Str} {Rel : RelM} {vs : List V} {H : Hp} {Q : VK} {E : XK} {b : BS K} (h : spM K Rel vs H Q E) (hn : ∀ ds M P, Rel ds M P → ds.length ≤ N.length) (hb : ∀ ds M P, Rel ds M P → b.w M (args N.length ds) (outM P)) :
    b.t (fun _ => E) { nx := fun _ H' => Q .non H', rt := Q } (L2.start N vs) H := by
  obtain ⟨F, ds, M, P, e, ra, c, hR, q⟩ := h
  have E1 := start_M e ra (hn ds M P hR) c
  refine b.ok.run (hb ds M P hR) E1 _ _ fun o M' z => ?_
  cases o with
  | nx G => exact fun σ F' H' E' f' => q (.ok .non) M' z .non F' H' E'.rom .non
  | rt d => exact fun v F' H' ro f' r1 => q (.ok d) M' z v F' H' ro r1
  | ex C G => exact fun σ F' H' E' f' => q (.exc C) M' z F' H' E'.rom
  | bk G => exact z.elim
  | ct G => exact z.elim
theorem body_WI {C : Addr} {N : List Str} {Rel : RelI} {vs : List V} {H : Hp} {Q : VK} {E : XK} {b : BS K} (h : spMI K C Rel vs H Q E) (hn : ∀ x ds M P, Rel x ds M P → ds.length + 1 ≤ N.length)
    (hb : ∀ x ds M P, M x = none → Rel x ds M P → b.w (updM M x (.ins C [])) (args N.length (.ptr x :: ds)) (outI P)) : b.t (fun _ => E) { nx := fun _ H' => Q .non H', rt := Q } (L2.start N vs) H := by
  obtain ⟨F, H1, x, dx, ws, ds, M, P, rfl, rfl, hx, hdx, hne, e, ra, c, hR, q⟩ := h
  have hF : F x = none := ex_none e hx
  have e2 : Ex H1 (upd (upd H1 dx (.own x)) x (.ins C dx [])) := (Ex.new hdx).trans (Ex.new (by rw [upd_ne (fun z => hne z.symm)]; exact hx))
  have hMx : M x = none := by
    cases z : M x with
    | none => rfl
    | some n =>
      obtain ⟨_, o, z2, _⟩ := c x n z
      rw [hx] at z2
      cases z2
  have E0 := start_en (K := K) (N := N) (vs := .ref x :: ws) (ds := .ptr x :: ds) (e.trans e2) (.cons (.ptr x) ra) (hn x ds M P hR)
  have E1 : EnM K (unseen M H1) F F (updM M x (.ins C [])) (upd (upd H1 dx (.own x)) x (.ins C dx [])) (L2.start N (.ref x :: ws)) (args N.length (.ptr x :: ds)) := by
    refine ⟨⟨E0.dat, fun i w z => absurd z args_own, E0.dis, (unseen_le).trans e2, e.trans e2, Ex.refl F, fun a o z => .inl z, E0.len⟩, fun a n z => ?_, fun a n z => ?_, fun i w p z => absurd z args_own⟩
    · by_cases ha : a = x
      · subst ha
        rw [updM_same] at z
        cases z
        exact ⟨hF, _, upd_same, .ins rfl .nil⟩
      · rw [updM_ne ha] at z
        obtain ⟨z1, o, z2, z3⟩ := c a n z
        exact ⟨z1, o, e2 _ _ z2, z3⟩
    · by_cases ha : a = x
      · subst ha
        rw [unseen_none hMx]
        exact hx
      · rw [updM_ne ha] at z
        exact unseen_some z
  refine b.ok.run (hb x ds M P hMx hR) E1 _ _ fun o M' z => ?_
  cases o with
  | nx G => exact fun σ F' H' E' f' => q (.ok .non) M' z F' H' E'.rom
  | ex C G => exact fun σ F' H' E' f' => q (.exc C) M' z F' H' E'.rom
  | rt d => exact z.elim
  | bk G => exact z.elim
  | ct G => exact z.elim
end
end Wp

set_option Elab.async false
set_option linter.all false
set_option maxRecDepth 100000
set_option maxHeartbeats 4000000
namespace Wp
open PySem PySem.Spec PyProof.Rows L2 Evl Cy
/-! how each order is read, a step at a time -/
def preC (dds : List D) (kk : List D → Sto → Prop) : List D → Sto → Prop := fun ds M => kk (ds ++ dds) M
def kitP (P : D → Sto → Prop) (M : Sto) : Option Bool → Prop
  | some b => P (.bl b) M
  | none => False
def isiK (T : String) (P : D → Sto → Prop) : D → Sto → Prop := fun d M => noObj (see M d) = true ∧ kitP P M (kitB (kindD (see M d)) T)
section
variable {K : PySem.W.Frag} {M : Sto} {G : List Sl} {P : D → Sto → Prop} {R : Addr → Sto → Prop} {PA : List D → Sto → Prop} {PB : Bool → Sto → Prop} {PO : Option Int → Sto → Prop} {PE : List (Key × D) → Sto → Prop} {S : Ot → Sto → Prop} {d : D}
theorem v_var {i : Nat} : ((bVar (K := K) i).w M G P R) = (slK G[i]? P M) := rfl
theorem v_slK  : (slK (some (.dat d)) P M) = (P d M) := rfl
theorem v_int {i : Int} : ((bInt (K := K) i).w M G P R) = (P (.int i) M) := rfl
theorem v_str {i : Str} : ((bStr (K := K) i).w M G P R) = (P (.str i) M) := rfl
theorem v_bl {i : Bool} : ((bBl (K := K) i).w M G P R) = (P (.bl i) M) := rfl
theorem v_non  : ((bNon (K := K)).w M G P R) = (P .non M) := rfl
theorem v_op {r : R2} {f : FO} {h : SO K r f} {a b : BE K} : ((bOp h a b).w M G P R) = (a.w M G (opK1 f b.w G P R) R) := rfl
theorem v_opK1 {f : FO} {b : WE} : (opK1 f b G P R d M) = (b M G (opK2 f P d) R) := rfl
theorem v_opK2 {f : FO} {c : D} : (opK2 f P d c M) = (f (see M d) (see M c) (atM P M)) := rfl
theorem v_atM  : (atM P M d) = (P d M) := rfl
theorem v_add {a b : BE K} : ((bAdd a b).w M G P R) = (a.w M G (addK1 b.w G P R) R) := rfl
theorem v_addK1 {b : WE} : (addK1 b G P R d M) = (b M G (addK2 P d) R) := rfl
theorem v_addK2 {c : D} : (addK2 P d c M) = (mAdd P M d c) := rfl
theorem v_mAddI {i j : Int} : (mAdd P M (.int i) (.int j)) = (P (.int (i + j)) M) := rfl
theorem v_mAddS {i j : Str} : (mAdd P M (.str i) (.str j)) = ((i.length + j.length ≤ 100000 ∧ P (.str (i ++ j)) M)) := rfl
theorem v_mAddL {l : List D} {c : D} : (mAdd P M (.lst l) c) = (catK P M (some l) (dl M c)) := by
  cases c <;> rfl
theorem v_mAddP {p : Addr} {c : D} : (mAdd P M (.ptr p) c) = (catK P M (dl M (.ptr p)) (dl M c)) := by
  cases c <;> rfl
theorem v_catK {l m : List D} : (catK P M (some l) (some m)) = ((l.length + m.length ≤ 100000 ∧ P (.lst (l ++ m)) M)) := rfl
theorem v_dlL {l : List D} : (dl M (.lst l)) = (some l) := rfl
theorem v_mul {a b : BE K} : ((bMul a b).w M G P R) = (a.w M G (mulK1 b.w G P R) R) := rfl
theorem v_mulK1 {b : WE} : (mulK1 b G P R d M) = (b M G (mulK2 P d) R) := rfl
theorem v_mulK2 {c : D} : (mulK2 P d c M) = (mMul P M d c) := rfl
theorem v_mMulI {i j : Int} : (mMul P M (.int i) (.int j)) = ((CMul i j ∧ P (.int (i * j)) M)) := rfl
theorem v_mMulL {l : List D} {j : Int} : (mMul P M (.lst l) (.int j)) = (repK P M j (some l)) := rfl
theorem v_repK {n : Int} {l : List D} : (repK P M n (some l)) = (((0 ≤ n ∧ n < 1000000 ∧ l.length * n.toNat ≤ 100000) ∧ P (.lst (List.replicate n.toNat l).flatten) M)) := rfl
theorem v_addA {a b : BE K} : ((bAddA a b).w M G P R) = (a.w M G (addAK1 b.w G P R) R) := rfl
theorem v_addAK1 {b : WE} : (addAK1 b G P R d M) = (b M G (addAK2 P d) R) := rfl
theorem v_addAK2 {c : D} : (addAK2 P d c M) = (catAK P M (dl M d) (dl M c)) := rfl
theorem v_catAK {l m : List D} : (catAK P M (some l) (some m)) = ((l.length + m.length ≤ 100000 ∧ newK P M (.lst (l ++ m)))) := rfl
theorem v_fSub {i j : Int} {k : D → Prop} : (fSub (.int i) (.int j) k) = (k (.int (i - j))) := rfl
theorem v_fFdv {i j : Int} {k : D → Prop} : (fFdv (.int i) (.int j) k) = (((0 < j ∧ j < 115792089237316195423570985008687907853269984665640564039457584007913129639936) ∧ k (.int (i / j)))) := rfl
theorem v_fMod {i j : Int} {k : D → Prop} : (fMod (.int i) (.int j) k) = ((0 < j ∧ k (.int (i % j)))) := rfl
theorem v_fPow {i j : Int} {k : D → Prop} : (fPow (.int i) (.int j) k) = ((CPow i j ∧ k (.int (i ^ j.toNat)))) := rfl
theorem v_fLtI {i j : Int} {k : D → Prop} : (fLt (.int i) (.int j) k) = (k (.bl (decide (i < j)))) := rfl
theorem v_fLeI {i j : Int} {k : D → Prop} : (fLe (.int i) (.int j) k) = (k (.bl (decide (i ≤ j)))) := rfl
theorem v_fLtS {i j : Str} {k : D → Prop} : (fLt (.str i) (.str j) k) = (k (.bl (decide (i.cps.toList < j.cps.toList)))) := rfl
theorem v_fLeS {i j : Str} {k : D → Prop} : (fLe (.str i) (.str j) k) = (k (.bl (!decide (j.cps.toList < i.cps.toList)))) := rfl
theorem v_fGt {i j : Int} {k : D → Prop} : (fGt (.int i) (.int j) k) = (k (.bl (decide (j < i)))) := rfl
theorem v_fGe {i j : Int} {k : D → Prop} : (fGe (.int i) (.int j) k) = (k (.bl (decide (j ≤ i)))) := rfl
theorem v_fEqI {i j : Int} {k : D → Prop} : (fEq (.int i) (.int j) k) = (k (.bl (decide (i = j)))) := rfl
theorem v_fEqS {i j : Str} {k : D → Prop} : (fEq (.str i) (.str j) k) = (k (.bl (decide (i = j)))) := rfl
theorem v_fEqL {l : List D} {c : D} {k : D → Prop} : (fEq (.lst l) c k) = ((okEq (.lst l) = true ∧ okEq c = true ∧ k (.bl (eqD (.lst l) c)))) := by
  unfold fEq
  cases c <;> rfl
theorem v_fEqT {l : List D} {c : D} {k : D → Prop} : (fEq (.tup l) c k) = ((okEq (.tup l) = true ∧ okEq c = true ∧ k (.bl (eqD (.tup l) c)))) := by
  unfold fEq
  cases c <;> rfl
theorem v_fNeI {i j : Int} {k : D → Prop} : (fNe (.int i) (.int j) k) = (k (.bl (!decide (i = j)))) := rfl
theorem v_fNeS {i j : Str} {k : D → Prop} : (fNe (.str i) (.str j) k) = (k (.bl (!decide (i = j)))) := rfl
theorem v_fNeL {l : List D} {c : D} {k : D → Prop} : (fNe (.lst l) c k) = ((okEq (.lst l) = true ∧ okEq c = true ∧ k (.bl (!eqD (.lst l) c)))) := by
  unfold fNe
  cases c <;> rfl
theorem v_fNeT {l : List D} {c : D} {k : D → Prop} : (fNe (.tup l) c k) = ((okEq (.tup l) = true ∧ okEq c = true ∧ k (.bl (!eqD (.tup l) c)))) := by
  unfold fNe
  cases c <;> rfl
theorem v_fIsN {k : D → Prop} : (fIs d .non k) = (k (.bl (isNon d))) := by
  cases d <;> rfl
theorem v_fIsB {a b : Bool} {k : D → Prop} : (fIs (.bl a) (.bl b) k) = (k (.bl (decide (a = b)))) := rfl
theorem v_fIsnN {k : D → Prop} : (fIsn d .non k) = (k (.bl (!isNon d))) := by
  cases d <;> rfl
theorem v_neg {a : BE K} : ((bNeg a).w M G P R) = (a.w M G (negK P) R) := rfl
theorem v_negK {i : Int} : (negK P (.int i) M) = (P (.int (-i)) M) := rfl
theorem v_notV {a : BE K} : ((bNotV a).w M G P R) = (a.w M G (notK P) R) := rfl
theorem v_notK {x : Bool} : (notK P (.bl x) M) = (P (.bl (!x)) M) := rfl
theorem v_andV {a b : BE K} : ((bAndV a b).w M G P R) = (a.w M G (andK b.w G P R) R) := rfl
theorem v_andT {b : WE} : (andK b G P R (.bl true) M) = (b M G P R) := rfl
theorem v_andF {b : WE} : (andK b G P R (.bl false) M) = (P (.bl false) M) := rfl
theorem v_orV {a b : BE K} : ((bOrV a b).w M G P R) = (a.w M G (orK b.w G P R) R) := rfl
theorem v_orT {b : WE} : (orK b G P R (.bl true) M) = (P (.bl true) M) := rfl
theorem v_orF {b : WE} : (orK b G P R (.bl false) M) = (b M G P R) := rfl
theorem v_ite {t : BT K} {a b : BE K} : ((bIte t a b).w M G P R) = (t.w M G (iteK a.w b.w G P R) R) := rfl
theorem v_iteT {a b : WE} : (iteK a b G P R true M) = (a M G P R) := rfl
theorem v_iteF {a b : WE} : (iteK a b G P R false M) = (b M G P R) := rfl
theorem v_chain {r r' : R2} {f f' : FO} {h : SO K r f} {h' : SO K r' f'} {a b c : BE K} : ((bChain h h' a b c).w M G P R) = (a.w M G (chK1 f f' b.w c.w G P R) R) := rfl
theorem v_chK1 {f f' : FO} {b c : WE} : (chK1 f f' b c G P R d M) = (b M G (chK2 f f' c G P R d) R) := rfl
theorem v_chK2 {f f' : FO} {c : WE} {e : D} : (chK2 f f' c G P R d e M) = (f (see M d) (see M e) (atM (chK3 c f' G P R e) M)) := rfl
theorem v_chK3T {f' : FO} {c : WE} {e : D} : (chK3 c f' G P R e (.bl true) M) = (c M G (opK2 f' P e) R) := rfl
theorem v_chK3F {f' : FO} {c : WE} {e : D} : (chK3 c f' G P R e (.bl false) M) = (P (.bl false) M) := rfl
theorem v_tup {a : BA K} : ((bTup a).w M G P R) = (a.w M G (tupK P) R) := rfl
theorem v_tupK {ds : List D} : (tupK P ds M) = ((ds.length ≤ 100000 ∧ P (.tup ds) M)) := rfl
theorem v_lst {a : BA K} : ((bLst a).w M G P R) = (a.w M G (lstK P) R) := rfl
theorem v_lstK {ds : List D} : (lstK P ds M) = ((ds.length ≤ 100000 ∧ P (.lst ds) M)) := rfl
theorem v_lstA {a : BA K} : ((bLstA a).w M G P R) = (a.w M G (lstAK P) R) := rfl
theorem v_lstAK {ds : List D} : (lstAK P ds M) = ((ds.length ≤ 100000 ∧ newK P M (.lst ds))) := rfl
theorem v_newK {n : Nd} : (newK P M n) = (∀ p, M p = none → P (.ptr p) (updM M p n)) := rfl
theorem v_fld {C : Addr} {hc : Cls K C} {a : BE K} {s : Str} {hn : NoAttr K C s} : ((bFld hc a s hn).w M G P R) = (a.w M G (fldK C s P) R) := rfl
theorem v_fldK {C : Addr} {s : Str} : (fldK C s P d M) = (df M C d (fldF s P M)) := rfl
theorem v_fldF {s : Str} {fs : List (Str × D)} : (fldF s P M fs) = (optK P M (fs.lookup s)) := rfl
theorem v_optK  : (optK P M (some d)) = (P d M) := rfl
theorem v_dfO {C : Addr} {fs : List (Str × D)} {k : List (Str × D) → Prop} : (df M C (.obj C fs) k) = (k fs) := by
  show (C = C ∧ k fs) = k fs
  rw [eq_self, true_and]
theorem v_dget {a b : BE K} : ((bDGet a b).w M G P R) = (a.w M G (dgetK1 b.w G P R) R) := rfl
theorem v_dgetK1 {b : WE} : (dgetK1 b G P R d M) = (b M G (dgetK2 P d) R) := rfl
theorem v_dgetK2 {e : D} : (dgetK2 P d e M) = (getK P M (dd M d) (keyOf e)) := rfl
theorem v_getK {es : List (Key × D)} {k : Key} : (getK P M (some es) (some k)) = (optK P M (valE es k)) := rfl
theorem v_keyI {i : Int} : (keyOf (.int i)) = (some (.inl i)) := rfl
theorem v_keyS {i : Str} : (keyOf (.str i)) = (some (.inr i)) := rfl
theorem v_ddD {es : List (Key × D)} : (dd M (.dic es)) = (some es) := rfl
theorem v_din {a b : BE K} : ((bDIn a b).w M G P R) = (a.w M G (dinK1 false b.w G P R) R) := rfl
theorem v_dnin {a b : BE K} : ((bDNotIn a b).w M G P R) = (a.w M G (dinK1 true b.w G P R) R) := rfl
theorem v_dinK1 {x : Bool} {b : WE} : (dinK1 x b G P R d M) = (b M G (dinK2 x P d) R) := rfl
theorem v_dinK2 {x : Bool} {e : D} : (dinK2 x P d e M) = (hasK x P M (dd M e) (keyOf d)) := rfl
theorem v_hasT {es : List (Key × D)} {k : Key} : (hasK true P M (some es) (some k)) = (P (.bl (!(valE es k).isSome)) M) := rfl
theorem v_hasF {es : List (Key × D)} {k : Key} : (hasK false P M (some es) (some k)) = (P (.bl (valE es k).isSome) M) := rfl
theorem v_dnew  : ((bDNew (K := K)).w M G P R) = (newK P M (.dic [])) := rfl
theorem v_ix {a b : BE K} : ((bIx a b).w M G P R) = (a.w M G (ixK1 b.w G P R) R) := rfl
theorem v_ixK1 {b : WE} : (ixK1 b G P R d M) = (b M G (ixK2 P d) R) := rfl
theorem v_ixK2 {e : D} : (ixK2 P d e M) = (mIx P M d e) := rfl
theorem v_mIxL {l : List D} {i : Int} : (mIx P M (.lst l) (.int i)) = (optK P M (atI l i)) := rfl
theorem v_mIxT {l : List D} {i : Int} : (mIx P M (.tup l) (.int i)) = (optK P M (atI l i)) := rfl
theorem v_mIxR {ns : List Int} {i : Int} : (mIx P M (.scr ns) (.int i)) = (optK P M (atI (ns.map D.int) i)) := rfl
theorem v_mIxS {z : Str} {i : Int} : (mIx P M (.str z) (.int i)) = ((z.length ≤ 100000 ∧ chF P M (atI z.cps.toList i))) := rfl
theorem v_mIxP {p : Addr} {i : Int} : (mIx P M (.ptr p) (.int i)) = (ixF P M (dl M (.ptr p)) (.int i)) := rfl
theorem v_ixF {l : List D} {i : Int} : (ixF P M (some l) (.int i)) = (optK P M (atI l i)) := rfl
theorem v_chF {c : Nat} : (chF P M (some c)) = (P (.str ⟨#[c]⟩) M) := rfl
theorem v_sl {a : BE K} {l h : BP K} : ((bSl a l h).w M G P R) = (a.w M G (slK1 l.w h.w G P R) R) := rfl
theorem v_slK1 {l h : WP} : (slK1 l h G P R d M) = (l M G (slK2 h G P R d) R) := rfl
theorem v_slK2 {h : WP} {lo : Option Int} : (slK2 h G P R d lo M) = (h M G (slK3 P d lo) R) := rfl
theorem v_slK3 {lo hi : Option Int} : (slK3 P d lo hi M) = (mSl P M lo hi d) := rfl
theorem v_mSlS {lo hi : Option Int} {z : Str} : (mSl P M lo hi (.str z)) = ((z.length ≤ 100000 ∧ P (.str (cutS z lo hi)) M)) := rfl
theorem v_mSlL {lo hi : Option Int} {l : List D} : (mSl P M lo hi (.lst l)) = (P (.lst (cutD l lo hi)) M) := rfl
theorem v_slT {a : BE K} {l h : BP K} : ((bSlT a l h).w M G P R) = (a.w M G (slTK1 l.w h.w G P R) R) := rfl
theorem v_slTK1 {l h : WP} : (slTK1 l h G P R d M) = (l M G (slTK2 h G P R d) R) := rfl
theorem v_slTK2 {h : WP} {lo : Option Int} : (slTK2 h G P R d lo M) = (h M G (slTK3 P d lo) R) := rfl
theorem v_slTK3 {lo hi : Option Int} : (slTK3 P d lo hi M) = (mSlT P M lo hi d) := rfl
theorem v_mSlT {lo hi : Option Int} {l : List D} : (mSlT P M lo hi (.tup l)) = ((¬ (HT.sIx l.length 0 lo = 0 ∧ HT.sIx l.length l.length hi = l.length) ∧ P (.tup (cutD l lo hi)) M)) := rfl
theorem v_b {r : List V → Hp → VK → Prop} {fb : WB} {h : SB K r fb} {a : BA K} : ((bB h a).w M G P R) = (a.w M G (fb P) R) := rfl
theorem v_fLen  : (fLen P [d] M) = (lenF P M d) := rfl
theorem v_lenL {l : List D} : (lenF P M (.lst l)) = (P (.int (l.length : Int)) M) := rfl
theorem v_lenT {l : List D} : (lenF P M (.tup l)) = (P (.int (l.length : Int)) M) := rfl
theorem v_lenR {ns : List Int} : (lenF P M (.scr ns)) = (P (.int ((ns.map D.int).length : Int)) M) := rfl
theorem v_lenS {z : Str} : (lenF P M (.str z)) = ((z.length ≤ 100000 ∧ P (.int (z.length : Int)) M)) := rfl
theorem v_fList  : (fList P [d] M) = (listF (fun l => P (.lst l) M) M d) := rfl
theorem v_fListA  : (fListA P [d] M) = (listF (fun l => newK P M (.lst l)) M d) := rfl
theorem v_listFL {kl : List D → Prop} {l : List D} : (listF kl M (.lst l)) = (kl l) := rfl
theorem v_listFT {kl : List D → Prop} {l : List D} : (listF kl M (.tup l)) = (kl l) := rfl
theorem v_fTuple  : (fTuple P [d] M) = (tupF P M d) := rfl
theorem v_tupFL {l : List D} : (tupF P M (.lst l)) = (P (.tup l) M) := rfl
theorem v_tupFT {l : List D} : (tupF P M (.tup l)) = (P (.tup l) M) := rfl
theorem v_fSum  : (fSum P [d] M) = (intsK (fun ns => P (.int ns.sum) M) (dq M d)) := rfl
theorem v_dqL {l : List D} : (dq M (.lst l)) = (some l) := rfl
theorem v_fMax2 {i j : Int} : (fMax P [.int i, .int j] M) = (P (.int (max i j)) M) := rfl
theorem v_fMin2 {i j : Int} : (fMin P [.int i, .int j] M) = (P (.int (min i j)) M) := rfl
theorem v_fAbs {i : Int} : (fAbs P [.int i] M) = (P (.int (i.natAbs : Int)) M) := rfl
theorem v_fAll  : (fAll P [d] M) = (blsK (fun ns => P (.bl (ns.all id)) M) (dl M d)) := rfl
theorem v_fAny  : (fAny P [d] M) = (blsK (fun ns => P (.bl (ns.any id)) M) (dl M d)) := rfl
theorem v_fIntB {b : Bool} : (fInt P [.bl b] M) = (P (.int (if b then 1 else 0)) M) := rfl
theorem v_fIntI {i : Int} : (fInt P [.int i] M) = (P (.int i) M) := rfl
theorem v_fStrI {i : Int} : (fStr P [.int i] M) = ((i.natAbs.log2 < 1920 ∧ P (.str (toString i)) M)) := rfl
theorem v_fStrS {z : Str} : (fStr P [.str z] M) = (P (.str z) M) := rfl
theorem v_isi {T : String} {a : BE K} : ((bIsi T a).w M G P R) = (a.w M G (isiK T P) R) := rfl
theorem v_isiK {T : String} : (isiK T P d M) = ((noObj (see M d) = true ∧ kitP P M (kitB (kindD (see M d)) T))) := rfl
theorem v_kitP {b : Bool} : (kitP P M (some b)) = (P (.bl b) M) := rfl
theorem v_isk {v : V} {cv : Value} {hv : ∀ u, RelV v u → u = cv} {a : BE K} : ((bIsk v cv hv a).w M G P R) = (a.w M G (iskK K cv P) R) := rfl
theorem v_fSortS  : (fSortS P [d] M) = (strsK (fun ns => ns.length < 64 ∧ P (.lst ((srtS ns).map D.str)) M) (dl M d)) := rfl
theorem v_fSortD  : (fSortD P [d] M) = (keysK (fun ns => ns.length < 64 ∧ P (.lst ((srtS ns).map D.str)) M) (dd M d)) := rfl
theorem v_fSortSA  : (fSortSA P [d] M) = (strsK (fun ns => ns.length < 64 ∧ newK P M (.lst ((srtS ns).map D.str))) (dl M d)) := rfl
theorem v_fSortDA  : (fSortDA P [d] M) = (keysK (fun ns => ns.length < 64 ∧ newK P M (.lst ((srtS ns).map D.str))) (dd M d)) := rfl
theorem v_fDictP  : (fDictP P [d] M) = (pairsK (fun es => (es.map fun p => p.1).Nodup ∧ newK P M (.dic es)) (dl M d)) := rfl
theorem v_fRepr  : (fRepr P [d] M) = ((Shows (see M d) ∧ P (.str (shw (see M d))) M)) := rfl
theorem v_call {sp : Sp} {kc : (D → Sto → Prop) → (Addr → Sto → Prop) → List D → Sto → Prop} {h : SC K sp kc} {a : BA K} : ((bCall h a).w M G P R) = (a.w M G (kc P R) R) := rfl
theorem v_callD {sp : Sp} {kc : (D → Sto → Prop) → (Addr → Sto → Prop) → List D → Sto → Prop} {h : SC K sp kc} {dvs : List V} {dds : List D} {hd : ∀ F, RpA K F dvs dds} {a : BA K} : ((bCallD h dvs dds hd a).w M G P R) = (a.w M G (preC dds (kc P R)) R) := rfl
theorem v_preC {dds ds : List D} {kk : List D → Sto → Prop} : (preC dds kk ds M) = (kk (ds ++ dds) M) := rfl
theorem v_meth {sp : Sp} {kc : (D → Sto → Prop) → (Addr → Sto → Prop) → List D → Sto → Prop} {h : SC K sp kc} {C : Addr} {s : Str} {dvs : List V} {dds : List D} {hd : ∀ F, RpA K F dvs dds} {o : BE K} {a : BA K} : ((bMeth h C s dvs dds hd o a).w M G P R) = (o.w M G (methK C s a.w dds G (kc P R) R) R) := rfl
theorem v_methK {C : Addr} {s : Str} {a : WA} {dds : List D} {kk : List D → Sto → Prop} : (methK C s a dds G kk R d M) = (df M C d (methF s a dds G kk R d M)) := rfl
theorem v_methF {s : Str} {a : WA} {dds : List D} {kk : List D → Sto → Prop} {fs : List (Str × D)} : (methF s a dds G kk R d M fs) = ((fs.lookup s = none ∧ a M G (preK kk d dds) R)) := rfl
theorem v_preK {dds ds : List D} {kk : List D → Sto → Prop} : (preK kk d dds ds M) = (kk (d :: (ds ++ dds)) M) := rfl
theorem v_make {T : RelI} {C : Addr} {a : BA K} : ((bMake (T := T) C a).w M G P R) = (a.w M G (makeK T P R) R) := rfl
theorem v_resO  : (resK P R (.ok d) M) = (P d M) := rfl
theorem v_resE {C : Addr} : (resK P R (.exc C) M) = (R C M) := rfl
theorem v_mkO {x : Addr} : (mkR P R x (.ok d) M) = (P (.ptr x) M) := rfl
theorem v_mkE {x C : Addr} : (mkR P R x (.exc C) M) = (R C M) := rfl
theorem v_nil  : ((bNil (K := K)).w M G PA R) = (PA [] M) := rfl
theorem v_cons {a : BE K} {ar : BA K} : ((bCons a ar).w M G PA R) = (a.w M G (consK1 ar.w G PA R) R) := rfl
theorem v_consK1 {wr : WA} : (consK1 wr G PA R d M) = (wr M G (consK2 PA d) R) := rfl
theorem v_consK2 {ds : List D} : (consK2 PA d ds M) = (PA (d :: ds) M) := rfl
theorem v_star {a : BE K} {ar : BA K} : ((bStar a ar).w M G PA R) = (a.w M G (starK1 ar.w G PA R) R) := rfl
theorem v_starT {wr : WA} {l : List D} : (starK1 wr G PA R (.tup l) M) = (wr M G (starK2 PA l) R) := rfl
theorem v_starK2 {l ds : List D} : (starK2 PA l ds M) = (PA (l ++ ds) M) := rfl
theorem v_tb {a : BE K} : ((bTB a).w M G PB R) = (a.w M G (isK PB) R) := rfl
theorem v_test {a : BE K} : ((bTest a).w M G PB R) = (a.w M G (isK PB) R) := rfl
theorem v_isK {x : Bool} : (isK PB (.bl x) M) = (PB x M) := rfl
theorem v_not {t : BT K} : ((bNot t).w M G PB R) = (t.w M G (noK PB) R) := rfl
theorem v_noK {x : Bool} : (noK PB x M) = (PB (!x) M) := rfl
theorem v_and {t u : BT K} : ((bAnd t u).w M G PB R) = (t.w M G (anK u.w G PB R) R) := rfl
theorem v_anT {wt : WT} : (anK wt G PB R true M) = (wt M G PB R) := rfl
theorem v_anF {wt : WT} : (anK wt G PB R false M) = (PB false M) := rfl
theorem v_or {t u : BT K} : ((bOr t u).w M G PB R) = (t.w M G (orrK u.w G PB R) R) := rfl
theorem v_orrT {wt : WT} : (orrK wt G PB R true M) = (PB true M) := rfl
theorem v_orrF {wt : WT} : (orrK wt G PB R false M) = (wt M G PB R) := rfl
theorem v_yes  : ((bYes (K := K)).w M G PB R) = (PB true M) := rfl
theorem v_tru {a : BE K} : ((bTru a).w M G PB R) = (a.w M G (truK PB) R) := rfl
theorem v_truB {x : Bool} : (truK PB (.bl x) M) = (PB x M) := rfl
theorem v_truL {l : List D} : (truK PB (.lst l) M) = (PB (!l.isEmpty) M) := rfl
theorem v_no  : ((bNo (K := K)).w M G PO R) = (PO none M) := rfl
theorem v_pa {a : BE K} : ((bPa a).w M G PO R) = (a.w M G (paK PO) R) := rfl
theorem v_paK {i : Int} : (paK PO (.int i) M) = (PO (some i) M) := rfl
theorem v_disp {ps : BPs K} : ((bDisp ps).w M G P R) = ((noOwn G = true ∧ ps.w M G (dispK G P) R)) := rfl
theorem v_pnil  : ((bpNil (K := K)).w M G PE R) = (PE [] M) := rfl
theorem v_pcons {k : Key} {a : BE K} {ps : BPs K} : ((bpCons k a ps).w M G PE R) = (a.w M G (pcK1 k ps.w G PE R) R) := rfl
theorem v_pcK1 {k : Key} {wq : Sto → List Sl → (List (Key × D) → Sto → Prop) → (Addr → Sto → Prop) → Prop} : (pcK1 k wq G PE R d M) = (wq M G (pcK2 PE k d) R) := rfl
theorem v_pcK2 {k : Key} {es : List (Key × D)} : (pcK2 PE k d es M) = (PE ((k, d) :: es) M) := rfl
theorem v_dispK {es : List (Key × D)} : (dispK G P es M) = (((noOwn G = true ∧ es.length ≤ 15 ∧ (es.map fun p => p.1).Nodup) ∧ newK P M (.dic es))) := rfl
theorem v_lc {it : BI K} {g : BG K} {t : BT K} {a : BE K} {vs : List Nat} {hk : Keeps g.g vs} : ((bLc it g t a vs hk).w M G P R) = (it.w M G (lcK g.w t.w a.w vs G (lstP P)) R) := rfl
theorem v_lcA {it : BI K} {g : BG K} {t : BT K} {a : BE K} {vs : List Nat} {hk : Keeps g.g vs} : ((bLcA it g t a vs hk).w M G P R) = (it.w M G (lcK g.w t.w a.w vs G (newP P)) R) := rfl
theorem v_lstP {ds : List D} : (lstP P ds M) = (P (.lst ds) M) := rfl
theorem v_newP {ds : List D} : (newP P ds M) = (newK P M (.lst ds)) := rfl
theorem v_dc {it : BI K} {g : BG K} {a b : BE K} {vs : List Nat} {hk : Keeps g.g vs} : ((bDc it g a b vs hk).w M G P R) = (it.w M G (dcK g.w a.w b.w vs G P) R) := rfl
theorem v_lenSc {it : BI K} {g : BG K} {a : BE K} {vs : List Nat} {hk : Keeps g.g vs} : ((bLenSc it g a vs hk).w M G P R) = (it.w M G (scK g.w a.w vs G P) R) := rfl
theorem v_app {a b : BE K} : ((bApp a b).w M G P R) = (a.w M G (appK1 b.w G P R) R) := rfl
theorem v_pop {a : BE K} : ((bPop a).w M G P R) = (a.w M G (popK P) R) := rfl
theorem v_popF {p : Addr} {l : List D} : (popF P M p l) = (optK P (updM M p (.lst l.dropLast)) l[l.length - 1]?) := rfl
theorem v_join {a b : BE K} : ((bJoin a b).w M G P R) = (a.w M G (joinK1 b.w G P R) R) := rfl
theorem v_joinK1 {b : WE} {z : Str} : (joinK1 b G P R (.str z) M) = (b M G (joinK2 P (.str z)) R) := rfl
theorem v_joinK2 {z : Str} : (joinK2 P (.str z) d M) = (strsK (fun ys => (ys.map (·.length)).sum + ys.length * z.length ≤ 16777216 ∧ P (.str (Txt.join z ys)) M) (dl M d)) := rfl
theorem v_lockE {a : BE K} : ((bLockE a).w M G P R) = (∃ p es, M p = some (.dic es) ∧ ∀ od kvs, a.w (updM M p (.dicL od kvs es)) G (lockEK p od kvs es P) R) := rfl
theorem v_lockEK {p : Addr} {od : Obj} {kvs : List (Key × V)} {es : List (Key × D)} : (lockEK p od kvs es P d M) = ((M p = some (.dicL od kvs es) ∧ P d (updM M p (.dic es)))) := rfl
theorem v_iList {a : BE K} {k : List D → (Sto → Prop) → Sto → Prop} : ((biList a).w M G k R) = (a.w M G (iListK k) R) := rfl
theorem v_iListK {k : List D → (Sto → Prop) → Sto → Prop} : (iListK k d M) = (lqK k M d) := rfl
theorem v_lqL {k : List D → (Sto → Prop) → Sto → Prop} {l : List D} : (lqK k M (.lst l)) = (k l yes M) := rfl
theorem v_lqR {k : List D → (Sto → Prop) → Sto → Prop} {ns : List Int} : (lqK k M (.scr ns)) = (k (ns.map D.int) yes M) := rfl
theorem v_iTup {a : BE K} {k : List D → (Sto → Prop) → Sto → Prop} : ((biTup a).w M G k R) = (a.w M G (iTupK k) R) := rfl
theorem v_iTupK {k : List D → (Sto → Prop) → Sto → Prop} {l : List D} : (iTupK k (.tup l) M) = (k l yes M) := rfl
theorem v_iStr {a : BE K} {k : List D → (Sto → Prop) → Sto → Prop} : ((biStr a).w M G k R) = (a.w M G (iStrK k) R) := rfl
theorem v_iStrK {k : List D → (Sto → Prop) → Sto → Prop} {z : Str} : (iStrK k (.str z) M) = (k (Cy.signs z) yes M) := rfl
theorem v_iRng1 {ar : BA K} {k : List D → (Sto → Prop) → Sto → Prop} : ((biRng1 ar).w M G k R) = (ar.w M G (iRng1K k) R) := rfl
theorem v_iRng1K {k : List D → (Sto → Prop) → Sto → Prop} {n : Int} : (iRng1K k [.int n] M) = (((-(2 ^ 62) ≤ n ∧ n < 2 ^ 62) ∧ k (rngD 0 n.toNat) yes M)) := rfl
theorem v_iRng2 {ar : BA K} {k : List D → (Sto → Prop) → Sto → Prop} : ((biRng2 ar).w M G k R) = (ar.w M G (iRng2K k) R) := rfl
theorem v_iRng2K {k : List D → (Sto → Prop) → Sto → Prop} {l n : Int} : (iRng2K k [.int l, .int n] M) = (((-(2 ^ 62) ≤ l ∧ l < 2 ^ 62 ∧ -(2 ^ 62) ≤ n ∧ n < 2 ^ 62) ∧ k (rngD l (n - l).toNat) yes M)) := rfl
theorem v_iEnum {ar : BA K} {k : List D → (Sto → Prop) → Sto → Prop} : ((biEnum ar).w M G k R) = (ar.w M G (iEnumK k) R) := rfl
theorem v_iEnumK {k : List D → (Sto → Prop) → Sto → Prop} : (iEnumK k [d] M) = (lqK (enumF k) M d) := rfl
theorem v_enumF {k : List D → (Sto → Prop) → Sto → Prop} {ds : List D} {gd : Sto → Prop} : (enumF k ds gd M) = (k (enumD ds) gd M) := rfl
theorem v_iZip {ar : BA K} {k : List D → (Sto → Prop) → Sto → Prop} : ((biZip ar).w M G k R) = (ar.w M G (iZipK k) R) := rfl
theorem v_iZipK {k : List D → (Sto → Prop) → Sto → Prop} {e : D} : (iZipK k [d, e] M) = (lqK (zipF1 k e) M d) := rfl
theorem v_zipF1 {k : List D → (Sto → Prop) → Sto → Prop} {e : D} {ds : List D} {gd : Sto → Prop} : (zipF1 k e ds gd M) = (lqK (zipF2 k ds gd) M e) := rfl
theorem v_zipF2 {k : List D → (Sto → Prop) → Sto → Prop} {ds es : List D} {gd ge : Sto → Prop} : (zipF2 k ds gd es ge M) = (k (zipD ds es) (fun M => gd M ∧ ge M) M) := rfl
theorem v_iKeys {a : BE K} {k : List D → (Sto → Prop) → Sto → Prop} : ((biKeys a).w M G k R) = (a.w M G (iKeysK k) R) := rfl
theorem v_iItems {a : BE K} {k : List D → (Sto → Prop) → Sto → Prop} : ((biItems a).w M G k R) = (a.w M G (iItemsK k) R) := rfl
theorem v_gName {i : Nat} {kg : List Sl → Prop} : ((bgName (K := K) i).w d G kg) = (kg (G.set i (.dat d))) := rfl
theorem v_gTup {n : Nat} {gs : BGs K} {ds : List D} {kg : List Sl → Prop} : ((bgTup n gs).w (.tup ds) G kg) = ((ds.length = n ∧ gs.w ds G kg)) := rfl
theorem v_gNil {kg : List Sl → Prop} : ((bgsNil (K := K)).w [] G kg) = (kg G) := rfl
theorem v_gCons {g : BG K} {gs : BGs K} {ds : List D} {kg : List Sl → Prop} : ((bgsCons g gs).w (d :: ds) G kg) = (g.w d G (wgsK gs.w ds kg)) := rfl
theorem v_wgsK {wg : List D → List Sl → (List Sl → Prop) → Prop} {ds : List D} {kg : List Sl → Prop} : (wgsK wg ds kg G) = (wg ds G kg) := rfl
theorem v_seq {s u : BS K} : ((bSeq s u).w M G S) = (s.w M G (seqK u.w S)) := rfl
theorem v_seqN {ws : WS} : (seqK ws S (.nx G) M) = (ws M G S) := rfl
theorem v_seqR {ws : WS} : (seqK ws S (.rt d) M) = (S (.rt d) M) := rfl
theorem v_seqX {ws : WS} {C : Addr} : (seqK ws S (.ex C G) M) = (S (.ex C G) M) := rfl
theorem v_seqB {ws : WS} : (seqK ws S (.bk G) M) = (S (.bk G) M) := rfl
theorem v_seqC {ws : WS} : (seqK ws S (.ct G) M) = (S (.ct G) M) := rfl
theorem v_exP {C : Addr} : (exP S G C M) = (S (.ex C G) M) := rfl
theorem v_asg {a : BE K} {g : BG K} : ((bAsg a g).w M G S) = (a.w M G (asgK g.w G S) (exP S G)) := rfl
theorem v_asgK {wg : WG} : (asgK wg G S d M) = (wg d G (asgG S M)) := rfl
theorem v_asgG  : (asgG S M G) = (S (.nx G) M) := rfl
theorem v_par {i j : Nat} {ar : BA K} : ((bPar i j ar).w M G S) = (ar.w M G (parK i j G S) (exP S G)) := rfl
theorem v_parK {i j : Nat} {e : D} : (parK i j G S [d, e] M) = (S (.nx ((G.set i (.dat d)).set j (.dat e))) M) := rfl
theorem v_ret {a : BE K} : ((bRet a).w M G S) = (a.w M G (rtK S) (exP S G)) := rfl
theorem v_rtK  : (rtK S d M) = (S (.rt d) M) := rfl
theorem v_retF {a : BE K} : ((bRetF a).w M G S) = (a.w M G (rtFK S) (exP S G)) := rfl
theorem v_rtFL {l : List D} : (rtFK S (.lst l) M) = (S (.rt (.lst l)) M) := rfl
theorem v_rtFT {l : List D} : (rtFK S (.tup l) M) = (S (.rt (.tup l)) M) := rfl
theorem v_rtFI {i : Int} : (rtFK S (.int i) M) = (S (.rt (.int i)) M) := rfl
theorem v_rtFS {i : Str} : (rtFK S (.str i) M) = (S (.rt (.str i)) M) := rfl
theorem v_rtFB {i : Bool} : (rtFK S (.bl i) M) = (S (.rt (.bl i)) M) := rfl
theorem v_rtFN  : (rtFK S .non M) = (S (.rt .non) M) := rfl
theorem v_retN  : ((bRetN (K := K)).w M G S) = (S (.rt .non) M) := rfl
theorem v_drop {a : BE K} : ((bDrop a).w M G S) = (a.w M G (dropK G S) (exP S G)) := rfl
theorem v_dropK  : (dropK G S d M) = (S (.nx G) M) := rfl
theorem v_next  : ((bNext (K := K)).w M G S) = (S (.nx G) M) := rfl
theorem v_brk  : ((bBrk (K := K)).w M G S) = (S (.bk G) M) := rfl
theorem v_cont  : ((bCont (K := K)).w M G S) = (S (.ct G) M) := rfl
theorem v_raise {C : Addr} : ((bRaise (K := K) C).w M G S) = (S (.ex C G) M) := rfl
theorem v_if {t : BT K} {s u : BS K} : ((bIf t s u).w M G S) = (t.w M G (ifK s.w u.w G S) (exP S G)) := rfl
theorem v_ifT {ws wu : WS} : (ifK ws wu G S true M) = (ws M G S) := rfl
theorem v_ifF {ws wu : WS} : (ifK ws wu G S false M) = (wu M G S) := rfl
theorem v_fgt {vs : List Nat} {s : BS K} : ((bFgt vs s).w M G S) = (s.w M (wipeG G vs) S) := rfl
theorem v_wipe0  : (wipeG G []) = (G) := rfl
theorem v_wipe1 {i : Nat} {vs : List Nat} : (wipeG G (i :: vs)) = ((wipeG G vs).set i .no) := rfl
theorem v_fldSet {C : Addr} {hc : Cls K C} {a b : BE K} {s : Str} {hn : NoAttr K C s} : ((bFldSet hc a s hn b).w M G S) = (b.w M G (fsK1 C s a.w G S) (exP S G)) := rfl
theorem v_fsK1 {C : Addr} {s : Str} {b : WE} : (fsK1 C s b G S d M) = (b M G (fsK2 C s G S d) (exP S G)) := rfl
theorem v_fsK2 {C p : Addr} {s : Str} : (fsK2 C s G S d (.ptr p) M) = (fsF C p s d G S M (M p)) := rfl
theorem v_fsF {C p : Addr} {s : Str} {fs : List (Str × D)} : (fsF C p s d G S M (some (.ins C fs))) = ((fs.length < 1000 ∧ S (.nx G) (updM M p (.ins C (putD s d fs))))) := by
  show (C = C ∧ fs.length < 1000 ∧ S (.nx G) (updM M p (.ins C (putD s d fs)))) = _
  rw [eq_self, true_and]
theorem v_dput {a b c : BE K} : ((bDPut a b c).w M G S) = (c.w M G (dpK1 a.w b.w G S) (exP S G)) := rfl
theorem v_dpK1 {a b : WE} : (dpK1 a b G S d M) = (a M G (dpK2 b G S d) (exP S G)) := rfl
theorem v_dpK2 {b : WE} {e : D} : (dpK2 b G S d e M) = (b M G (dpK3 G S d e) (exP S G)) := rfl
theorem v_dpK3 {p : Addr} {e : D} : (dpK3 G S d (.ptr p) e M) = (dpF p d G S M (keyOf e) (M p)) := rfl
theorem v_dpF {p : Addr} {k : Key} {es : List (Key × D)} : (dpF p d G S M (some k) (some (.dic es))) = ((es.length < 100000 ∧ S (.nx G) (updM M p (.dic (putE es k d))))) := rfl
theorem v_ddel {a b : BE K} : ((bDDel a b).w M G S) = (a.w M G (ddK1 b.w G S) (exP S G)) := rfl
theorem v_ddK1 {b : WE} : (ddK1 b G S d M) = (b M G (ddK2 G S d) (exP S G)) := rfl
theorem v_ddK2 {p : Addr} {e : D} : (ddK2 G S (.ptr p) e M) = (ddF p G S M (keyOf e) (M p)) := rfl
theorem v_ddF {p : Addr} {k : Key} {es : List (Key × D)} : (ddF p G S M (some k) (some (.dic es))) = (((valE es k).isSome = true ∧ S (.nx G) (updM M p (.dic (dropE es k))))) := rfl
theorem v_setL {a b c : BE K} : ((bSetL a b c).w M G S) = (c.w M G (slsK1 a.w b.w G S) (exP S G)) := rfl
theorem v_slsK1 {a b : WE} : (slsK1 a b G S d M) = (a M G (slsK2 b G S d) (exP S G)) := rfl
theorem v_slsK2 {b : WE} {e : D} : (slsK2 b G S d e M) = (b M G (slsK3 G S d e) (exP S G)) := rfl
theorem v_slsK3 {p : Addr} {e : D} : (slsK3 G S d (.ptr p) e M) = (slF p d G S M e (M p)) := rfl
theorem v_for {it : BI K} {g : BG K} {s : BS K} : ((bFor it g s).w M G S) = (it.w M G (forK g.w s.w G S) (exP S G)) := rfl
theorem v_forT {ws : WS} {J : Sto → List Sl → Prop} : (forT ws J S M G) = (ws M G (loopK J S)) := rfl
theorem v_loopN {J : Sto → List Sl → Prop} : (loopK J S (.nx G) M) = (J M G) := rfl
theorem v_loopC {J : Sto → List Sl → Prop} : (loopK J S (.ct G) M) = (J M G) := rfl
theorem v_loopB {J : Sto → List Sl → Prop} : (loopK J S (.bk G) M) = (S (.nx G) M) := rfl
theorem v_loopR {J : Sto → List Sl → Prop} : (loopK J S (.rt d) M) = (S (.rt d) M) := rfl
theorem v_loopX {J : Sto → List Sl → Prop} {C : Addr} : (loopK J S (.ex C G) M) = (S (.ex C G) M) := rfl
theorem v_try {cv : Value} {i j : Nat} {him : i ≠ j} {s : BS K} : ((bTry cv i j him s).w M G S) = (s.w M G (tryK K cv i j S)) := rfl
theorem v_tryN {cv : Value} {i j : Nat} : (tryK K cv i j S (.nx G) M) = (S (.nx G) M) := rfl
theorem v_tryR {cv : Value} {i j : Nat} : (tryK K cv i j S (.rt d) M) = (S (.rt d) M) := rfl
theorem v_tryX {cv : Value} {i j : Nat} {C : Addr} : (tryK K cv i j S (.ex C G) M) = ((i < G.length ∧ PySem.W.exmOne K (.ref C) cv = some true ∧ S (.nx ((G.set j (.dat (.exc C))).set i .no)) M)) := rfl
theorem v_lock {s : BS K} : ((bLock s).w M G S) = (∃ p es, M p = some (.dic es) ∧ ∀ od kvs, s.w (updM M p (.dicL od kvs es)) G (lockK p od kvs es S)) := rfl
theorem v_lockN {p : Addr} {od : Obj} {kvs : List (Key × V)} {es : List (Key × D)} : (lockK p od kvs es S (.nx G) M) = ((M p = some (.dicL od kvs es) ∧ S (.nx G) (updM M p (.dic es)))) := rfl
theorem v_lockR {p : Addr} {od : Obj} {kvs : List (Key × V)} {es : List (Key × D)} : (lockK p od kvs es S (.rt d) M) = ((M p = some (.dicL od kvs es) ∧ S (.rt d) (updM M p (.dic es)))) := rfl
theorem v_lockX {p C : Addr} {od : Obj} {kvs : List (Key × V)} {es : List (Key × D)} : (lockK p od kvs es S (.ex C G) M) = (S (.ex C G) M) := rfl
theorem v_outXR {rr : Res} : (outX rr (.rt d) M) = ((rr = .ok d)) := rfl
theorem v_outXN {rr : Res} : (outX rr (.nx G) M) = ((rr = .ok .non)) := rfl
theorem v_outXX {rr : Res} {C : Addr} : (outX rr (.ex C G) M) = ((rr = .exc C)) := rfl
theorem v_outO {l : List D} {p : Addr} : (outO l (.rt (.ptr p)) M) = ((M p = some (.lst l))) := rfl
theorem v_outMR {pr : Res → Sto → Prop} : (outM pr (.rt d) M) = (pr (.ok d) M) := rfl
theorem v_outMN {pr : Res → Sto → Prop} : (outM pr (.nx G) M) = (pr (.ok .non) M) := rfl
theorem v_outMX {pr : Res → Sto → Prop} {C : Addr} : (outM pr (.ex C G) M) = (pr (.exc C) M) := rfl
theorem v_outIN {pr : Res → Sto → Prop} : (outI pr (.nx G) M) = (pr (.ok .non) M) := rfl
theorem v_outIX {pr : Res → Sto → Prop} {C : Addr} : (outI pr (.ex C G) M) = (pr (.exc C) M) := rfl
theorem v_lcT {wt : WT} {a : WE} {I : Nat → List D → Sto → Prop} {i : Nat} {ds : List D} : (lcT wt a I i ds M G) = (wt M G (lcB a I i ds G) noR) := rfl
theorem v_lcBT {a : WE} {I : Nat → List D → Sto → Prop} {i : Nat} {ds : List D} : (lcB a I i ds G true M) = (a M G (lcV I i ds) noR) := rfl
theorem v_lcBF {a : WE} {I : Nat → List D → Sto → Prop} {i : Nat} {ds : List D} : (lcB a I i ds G false M) = (I (i + 1) ds M) := rfl
theorem v_lcV {I : Nat → List D → Sto → Prop} {i : Nat} {ds : List D} : (lcV I i ds d M) = (I (i + 1) (ds ++ [d]) M) := rfl
theorem v_scT {a : WE} {I : Nat → List Key → Sto → Prop} {i : Nat} {ks : List Key} : (scT a I i ks M G) = (a M G (scV I i ks) noR) := rfl
theorem v_dcT {a b : WE} {I : Nat → List (Key × D) → Sto → Prop} {i : Nat} {es : List (Key × D)} : (dcT a b I i es M G) = (a M G (dcE b I i es G) noR) := rfl
theorem v_dcE {b : WE} {I : Nat → List (Key × D) → Sto → Prop} {i : Nat} {es : List (Key × D)} : (dcE b I i es G d M) = (b M G (dcV I i es d) noR) := rfl
theorem v_seeI {i : Int} : (see M (.int i)) = (.int i) := rfl
theorem v_seeS {i : Str} : (see M (.str i)) = (.str i) := rfl
theorem v_seeB {i : Bool} : (see M (.bl i)) = (.bl i) := rfl
theorem v_seeN  : (see M .non) = (.non) := rfl
theorem v_seeL {l : List D} : (see M (.lst l)) = (.lst l) := rfl
theorem v_seeT {l : List D} : (see M (.tup l)) = (.tup l) := rfl
theorem v_seeD {es : List (Key × D)} : (see M (.dic es)) = (.dic es) := rfl
theorem v_seeO {C : Addr} {fs : List (Str × D)} : (see M (.obj C fs)) = (.obj C fs) := rfl
theorem v_seeR {ns : List Int} : (see M (.scr ns)) = (.scr ns) := rfl
theorem v_seeX {C : Addr} : (see M (.exc C)) = (.exc C) := rfl
theorem v_noI {i : Int} : (Cy.isNon (.int i)) = (false) := rfl
theorem v_noS {i : Str} : (Cy.isNon (.str i)) = (false) := rfl
theorem v_noB {i : Bool} : (Cy.isNon (.bl i)) = (false) := rfl
theorem v_noN  : (Cy.isNon .non) = (true) := rfl
theorem v_noL {l : List D} : (Cy.isNon (.lst l)) = (false) := rfl
theorem v_noT {l : List D} : (Cy.isNon (.tup l)) = (false) := rfl
theorem v_noP {p : Addr} : (Cy.isNon (.ptr p)) = (false) := rfl
theorem v_noE {p : Addr} : (Cy.isNon (.exc p)) = (false) := rfl
end
end Wp

set_option Elab.async false
set_option linter.all false
set_option maxRecDepth 100000
set_option maxHeartbeats 4000000
/-! set(xs) of a row of texts and numbers -/
namespace Wp
open PySem PySem.Spec PyProof.Rows L2 Evl Cy
theorem cnt_snoc (ks : List Key) (k : Key) : (if memK ks k = true then cntK ks.reverse else cntK ks.reverse + 1) = cntK (ks ++ [k]).reverse := by
  rw [List.reverse_append]
  have : memK ks.reverse k = memK ks k := by
    rw [Bool.eq_iff_iff, memK_iff, memK_iff, List.mem_reverse]
  show _ = (if memK ks.reverse k = true then cntK ks.reverse else cntK ks.reverse + 1)
  rw [this]
theorem mem_snoc (ks : List Key) (k : Key) : (fun j => memK ks j || decide (j = k)) = memK (ks ++ [k]) := by
  funext j
  unfold memK
  rw [List.any_append]
  congr 1
  simp only [List.any_cons, List.any_nil, Bool.or_false]
  exact decide_eq_decide.mpr eq_comm
abbrev Kset (P : Program) (w : World) (h : Heap) (a : Addr) (ks : List Key) : Prop := h.SetOf (mixKind P w) a (memK ks) (cntK ks.reverse)
theorem kset_keep {P : Program} {w : World} {h h' : Heap} {a : Addr} {ks : List Key} (R : Kset P w h a ks) (k : ∀ o, h.get? a = some o → h'.get? a = some o) : Kset P w h' a ks := setOf_at R k
section
variable {P : Program} {w : World} {A : Around} {R : Result → Shared → Prop} {I : Addr} {fp wr : List Addr} {G : Array GenState → Array GenState → Prop} {n : Nat} {PI : Nat → Value → Prop} {St : Nat → Shared → Prop}
theorem fill_set (W : WalksS P w A.in1 I fp wr G n PI St) (Z : Addr) (hZ : Z ∉ fp) (ks : List Key) (hn : ks.length = n) (hv : ∀ i v, PI i v → ∃ k, ks[i]? = some k ∧ RelV (kV k) v) (hb : n + 1 < scanBound) :
    ∀ (left i : Nat) (s : Shared), n - i = left → i ≤ n → St i s → Kset P w s.heap Z (ks.take i) → (∀ s', Moved (Z :: wr) G s s' → Kset P w s'.heap Z ks → R (.ok (.ret .none)) s') →
      codeAny (model P w) A (.builtin "set.update.loop" ⟨[.ref Z, .ref I], []⟩) R s
  | 0, i, s, hk, hi, hst, hS, hR => by
    have e : i = n := by omega
    subst e
    have out : Z ∉ wr := fun q => hZ (W.sub _ q)
    refine codeAny_builtin F.entry_set_update_loop (by
      rw [Around.under_plainId F.plain_set_update_loop _]
      show wpAny _ A.in1 (pyNext (.ref I) >>= _) _ _ s
      refine wpAny_bind (W.done s _ _ hst fun s' hm => (by
        show wpAny _ A.in1 (ret Value.none) _ _ s'
        refine wpAny_pure (hR s' (hm.mono fun b q => List.mem_cons_of_mem _ q) ?_)
        have e2 : ks.take i = ks := List.take_of_length_le (by omega)
        rw [e2] at hS
        exact kset_keep hS fun o ho => hm.heap Z o out ho)))
  | left + 1, i, s, hk, hi, hst, hS, hR => by
    have lt : i < n := by omega
    have out : Z ∉ wr := fun q => hZ (W.sub _ q)
    refine codeAny_builtin F.entry_set_update_loop (by
      rw [Around.under_plainId F.plain_set_update_loop _]
      show wpAny _ A.in1 (pyNext (.ref I) >>= _) _ _ s
      refine wpAny_bind (W.item i s _ _ lt hst fun v s' hP hst' hm => (by
        obtain ⟨k, hki, hr⟩ := hv i v hP
        have S1 : Kset P w s'.heap Z (ks.take i) := kset_keep hS fun o ho => hm.heap Z o out ho
        show wpAny _ A.in1 (holding [v] (setAdd Z v) >>= _) _ _ s'
        refine wpAny_bind (wpAny_holding (by
          unfold setAdd
          refine wpAny_holding (wpAny_bind ((mixKind P w).pyHash (k := k) (kV_is hr) ?_))
          have few : cntK (ks.take i).reverse + 1 < scanBound := by
            have := cntK_le (ks.take i).reverse
            rw [List.length_reverse, List.length_take] at this
            omega
          refine wpAny_setAddHashed_of (knd := mixKind P w) (s := { s' with toks := s'.toks + 1 }) (kV_is hr) (key_scan hr) S1 few fun h' hsb S2 => ?_
          have S3 : Kset P w h' Z (ks.take (i + 1)) := by
            have e : ks.take (i + 1) = ks.take i ++ [k] := by rw [List.take_succ, hki]; rfl
            rw [e]
            show h'.SetOf (mixKind P w) Z _ _
            rw [← mem_snoc, ← cnt_snoc]
            exact S2
          refine wpAny_pure ⟨plainId_quiet F.plain_set_update_loop _, fill_set W Z hZ ks hn hv hb left (i + 1) _ (by omega) lt (W.frame _ s' _ _ hst' (Nat.le_succ _) fun b hb2 o e => ?_) S3 fun s2 hm2 S4 => ?_⟩
          · rw [hsb.2 b fun q : b = Z => hZ (by rw [← q]; exact hb2)]
            exact e
          · refine hR s2 (Moved.trans W.gtrans ((hm.mono fun b q => List.mem_cons_of_mem _ q).then_heap (Nat.le_succ _) fun b o q e => ?_) hm2) S4
            rw [hsb.2 b fun z : b = Z => q (by rw [z]; exact List.mem_cons_self)]
            exact e)))))
end
theorem vals_key : ∀ {ks : List Key} {us : List Value}, Vals (ks.map kV) us → ∀ (i : Nat) (v : Value), us[i]? = some v → ∃ k, ks[i]? = some k ∧ RelV (kV k) v
  | [], _, .nil, i, v, h => by simp at h
  | k :: ks, _, .cons r t, 0, v, h => by
    simp only [List.getElem?_cons_zero, Option.some.injEq] at h
    subst h
    exact ⟨k, rfl, r⟩
  | k :: ks, _, .cons r t, i + 1, v, h => vals_key t i v (by simpa using h)
section
variable {P : Program} {w : World} {A : Around} {E : Value → Shared → Prop} {s : Shared}
theorem made_set {l : Addr} {its : Array Value} {ks : List Key} {Q : Value → Shared → Prop} (hh : A.handled = none) (hl : s.heap.IsList l its) (hi : Vals (ks.map kV) its.toList) (hb : its.size + 1 < scanBound)
    (h : ∀ (h' : Heap) (tk : Nat), Kset P w h' s.heap.objs.size ks → (∀ b o, b < s.heap.objs.size → s.heap.get? b = some o → h'.get? b = some o) → Q (.ref s.heap.objs.size) { s with heap := h', toks := tk }) : wpAny (model P w) A (call (.type "set") [.ref l]) Q E s := by
  have hks : ks.length = its.size := by
    have e := hi.length
    rw [List.length_map, Array.length_toList] at e
    omega
  obtain ⟨c, tl, hmro⟩ := F.called_set.mro; have hmade := F.called_set.made; have hsub := F.called_set.sub
  refine wpAny_call (codeAny_of_tree (by
    show wpAny _ _ (callAny (.type "set") _) _ _ _
    refine wpAny_pure ⟨Code.quiet_builtin _ (by decide +kernel), codeAny_builtin F.entry_type_call ?_⟩
    rw [Around.under_plain (weight_type_call_type "set" [.ref l] []) rfl]
    have h1 := F.called_set.notType; have h2 := F.called_set.canCreate; have hct := F.typeCall_set_1 (.ref l)
    repeat (any_goals (first | assumption | wp_step))
    refine codeAny_mono (code_set_new_1 (.ref l) (E := E) (Q₁ := fun ob z => ∃ led : Bool, ob = .ref s.heap.objs.size ∧ z = { s with heap := s.heap.push { cls := .type "set", dict := none, data := .set #[] 0 (.fresh 0 0 led) } }) fun led => ⟨led, rfl, rfl⟩) fun r z hr => ?_
    cases r with
    | error e => exact hr
    | ok fl =>
      cases fl with
      | ret obj =>
        obtain ⟨led, rfl, rfl⟩ := hr
        have aS : (s.heap.push { cls := .type "set", dict := none, data := .set #[] 0 (.fresh 0 0 led) }).get? s.heap.objs.size = some { cls := .type "set", dict := none, data := .set #[] 0 (.fresh 0 0 led) } := Heap.get?_push_size _ rfl
        have aT : Shared.TypeIs { s with heap := s.heap.push { cls := .type "set", dict := none, data := .set #[] 0 (.fresh 0 0 led) } } (.ref s.heap.objs.size) "set" := ⟨_, aS, rfl⟩
        have hli := F.called_set.init.lookup; have hbi := F.called_set.init.bind (.ref s.heap.objs.size)
        repeat (any_goals (first | assumption | wp_step))
        refine codeAny_mono (codeAny_call_builtin (R := wants (fun r z => r = .none ∧ ∃ h' tk, z = { s with heap := h', toks := tk } ∧ Kset P w h' s.heap.objs.size ks ∧ (∀ b o, b < s.heap.objs.size → s.heap.get? b = some o → h'.get? b = some o)) E) F.called_set.init.plain F.entry_set_init (check_set_init_1 aT ?_)) fun r2 z2 hr2 => ?_
        · obtain ⟨⟨ocls, odict, odata, oslots⟩, hol, hcl, nl, hdl⟩ := hl
          simp only at hcl hdl
          subst hcl; subst hdl
          have al : (s.heap.push { cls := .type "set", dict := none, data := .set #[] 0 (.fresh 0 0 led) }).get? l = some { cls := .type "list", dict := odict, data := .seq its nl, slots := oslots } := Heap.get?_push_of_some _ hol
          have hsls := F.sub_list_set; have hslf := F.sub_list_frozenset
          have hne : (Value.type "list" == Value.type "dict") = false := by decide
          have bl : (s.heap.push { cls := .type "set", dict := none, data := .set #[] 0 (.fresh 0 0 led) }).IsList l its := ⟨_, al, rfl, nl, rfl⟩
          unfold Builtin.«set.__init__» noKeywords Builtin.Frozenset.updateFrom
          generalize hPI : pyIter = PI
          wp_walk
          subst hPI
          refine wpAny_pyIter_list bl (wpAny_bind (wpAny_runValue ?_))
          have ll : l < s.heap.objs.size := Heap.lt_size hol
          have h3 : A.in1.in1.in1.handled = none := by simp [hh]
          have nI : l ≠ (s.heap.push { cls := .type "set", dict := none, data := .set #[] 0 (.fresh 0 0 led) }).objs.size := by
            rw [Heap.size_push]; exact Nat.ne_of_lt (Nat.lt_succ_of_lt ll)
          have nS : s.heap.objs.size ∉ [(s.heap.push { cls := .type "set", dict := none, data := .set #[] 0 (.fresh 0 0 led) }).objs.size, l] := by
            rw [Heap.size_push]; simp only [List.mem_cons, List.mem_singleton, List.not_mem_nil, or_false, not_or]
            exact ⟨Nat.ne_of_lt (Nat.lt_succ_self _), Nat.ne_of_gt ll⟩
          refine fill_set ((Walks.list h3 _ l nI its).toS) s.heap.objs.size nS ks hks (fun i v hv => vals_key hi i v (by rw [Array.getElem?_toList]; exact hv)) hb (its.size - 0) 0 _ (by omega) (Nat.zero_le _) ⟨⟨_, Heap.get?_push_size _ rfl, rfl, rfl⟩, (bl.push _)⟩ ?s0 ?sR
          case s0 =>
            have g : ((s.heap.push { cls := .type "set", dict := none, data := .set #[] 0 (.fresh 0 0 led) }).push { cls := .type "list_iterator", data := .fields #[.ref l, .int 0 0] }).get? s.heap.objs.size = some { cls := .type "set", dict := none, data := .set #[] 0 (.fresh 0 0 led) } := Heap.get?_push_of_some _ aS
            rw [List.take_zero]
            exact ⟨_, #[], 0, _, g, ⟨rfl, rfl, rfl⟩, rfl, (fun e he => by simp at he), (fun k => by simp [memK]), (by decide), (by rfl), rfl⟩
          case sR =>
            intro s' hm hS'
            obtain ⟨h', g', d', tk', os'⟩ := s'
            obtain rfl : g' = s.gens := hm.gens
            obtain rfl : d' = s.drawn := hm.drawn
            obtain rfl : os' = s.os := hm.os
            show wpAny _ _ _ _ _ _
            refine wpAny_pure (by
              show wpAny _ _ (ret Value.none) _ _ _
              refine wpAny_pure ⟨rfl, h', tk', rfl, hS', fun b o hb e => ?_⟩
              have n1 : b ≠ s.heap.objs.size := Nat.ne_of_lt hb
              have n2 : b ≠ (s.heap.push { cls := .type "set", dict := none, data := .set #[] 0 (.fresh 0 0 led) }).objs.size := by
                rw [Heap.size_push]; exact Nat.ne_of_lt (Nat.lt_succ_of_lt hb)
              exact hm.heap b o (by simp only [List.mem_cons, List.mem_singleton, List.not_mem_nil, or_false, not_or]; exact ⟨n1, n2⟩) (Heap.get?_push_of_some _ (Heap.get?_push_of_some _ e)))
        · cases r2 with
          | error e => exact hr2
          | ok fl2 =>
            cases fl2 with
            | ret r =>
              obtain ⟨rfl, h', tk, rfl, hS', hk'⟩ := hr2
              repeat (any_goals (first | assumption | wp_step))
              exact h _ _ hS' hk'
            | _ => exact hr2.elim
      | _ => exact hr.elim))
end
/-- set(xs), the set by its making alone -/
def rSetL (K : PySem.W.Frag) (Cl : Addr → (Key → Bool) → Nat → HO) : List V → Hp → VK → Prop := fun xs H Q => ∃ (l : Addr) (ks : List Key), xs = [V.ref l] ∧ SqL K H l (ks.map kV) ∧ ks.length < 1000 ∧ ∀ a, H a = none → Q (.ref a) (upd H a (Cl a (memK ks) (cntK ks.reverse)))
theorem cr_setL {X : Cx} (hc : X.calm = true) : CallR X (.type "set") (rSetL X.K (SetK X.prog X.w)) := by
  intro pins s σ H xs us Q I r h
  obtain ⟨l, ks, rfl, hl, hk, q⟩ := h
  rw [Vals.ref1 r]
  obtain ⟨its, rv, pl, hz⟩ := I.list hl
  have hn : H s.heap.objs.size = none := I.hok.fresh (Nat.le_refl _)
  have hlen : its.length = ks.length := by
    have e := rv.length
    rw [List.length_map] at e
    omega
  have hsb : scanBound = 4096 := rfl
  refine made_set (its := its.toArray) (I.ok.hd hc) pl.isList (by simpa using rv) (by rw [List.size_toArray]; omega) fun h' tk hS hkp => ?_
  exact ⟨.ref s.heap.objs.size, upd H s.heap.objs.size (SetK X.prog X.w s.heap.objs.size (memK ks) (cntK ks.reverse)), I.laid (t' := tk) (fun b o e => hkp b o (Heap.lt_size e) e) (Nat.le_refl _) (setK_new hS), rfl, q _ hn⟩
/-- len(set(xs)) -/
def tLenSet (K : PySem.W.Frag) (te : TE) : TE := fun σ H Q => ∀ Cl : Addr → (Key → Bool) → Nat → HO, tCB (rLenC Cl) (tCons (tCB (rSetL K Cl) (tCons te tNil)) tNil) σ H Q
theorem pe_lenSet {X : Cx} {e : Expr} {p p2 pos pos' : Pos} {te : TE} (hc : X.calm = true) (hgl : Gl X "len") (hml : X.mg "len" = none) (hgs : Gl X "set") (hms : X.mg "set" = none) (he : PE X e te)
    (h1 : starEach [e] X.env = (false, eval e X.env) :: starEach [] X.env := by rfl) (h2 : starEach [.Call (.Name "set" p2) [e] [] pos] X.env = (false, eval (.Call (.Name "set" p2) [e] [] pos) X.env) :: starEach [] X.env := by rfl) :
    PE X (.Call (.Name "len" p) [.Call (.Name "set" p2) [e] [] pos] [] pos') (tLenSet X.K te) := ⟨fun pins s σ H Q I h =>
  (pe_callB (he := h2) call_lenK hgl hml (by decide +kernel) (pa_cons (hs := h2) (pe_callTy (he := h1) (cr_setL hc) hgs hms (by decide +kernel) (pa_cons (hs := h1) he pa_nil)) pa_nil)).run pins s σ H Q I (h (SetK X.prog X.w))⟩
def keysOf : List D → Option (List Key)
  | [] => some []
  | d :: r => match keyOf d, keysOf r with
    | some k, some ks => some (k :: ks)
    | _, _ => none
theorem keysOf_strs : ∀ zs : List Str, keysOf (zs.map D.str) = some (zs.map Sum.inr)
  | [] => rfl
  | z :: zs => by
    show (match keyOf (D.str z), keysOf (zs.map D.str) with
    | some k, some ks => some (k :: ks)
    | _, _ => none) = _
    rw [keysOf_strs zs]
    rfl
theorem keysOf_rp {K : PySem.W.Frag} {F : Hp} : ∀ {l : List D} {ks : List Key} {xs : List V}, keysOf l = some ks → RpA K F xs l → xs = ks.map kV
  | [], ks, xs, h, r => by
    cases h
    cases r
    rfl
  | d :: l, ks, xs, h, r => by
    have h' : (match keyOf d, keysOf l with
      | some k, some ks => some (k :: ks)
      | _, _ => none) = some ks := h
    cases z : keyOf d with
    | none => rw [z] at h'; cases h'
    | some k =>
      cases y : keysOf l with
      | none => rw [z, y] at h'; cases h'
      | some ks2 =>
        rw [z, y] at h'
        cases h'
        cases r with
        | cons r1 r2 =>
          rw [keyOf_eq z] at r1
          rw [key_rp r1, keysOf_rp y r2]
          rfl
def lenSetF (P : D → Sto → Prop) (M : Sto) : Option (List D) → Prop
  | some l => match keysOf l with
    | some ks => ks.length < 1000 ∧ P (.int (cntK ks.reverse : Nat)) M
    | none => False
  | none => False
def lenSetK (P : D → Sto → Prop) : D → Sto → Prop := fun d M => lenSetF P M (dl M d)
def bLenSet {K : PySem.W.Frag} (a : BE K) : BE K := ⟨fun X => tLenSet K (a.t X), fun M G P R => a.w M G (lenSetK P) R, ⟨fun {M G P R} z {H0 F0 F H σ} E X Q q qx Cl => by
  unfold tCB tCons
  refine a.ok.run z E X _ (fun d M1 k1 v F1 H1 E1 f1 r1 => ?_) qx
  have k1' : lenSetF P M1 (dl M1 d) := k1
  cases y : dl M1 d with
  | none => rw [y] at k1'; exact k1'.elim
  | some l =>
    rw [y] at k1'
    have k2 : (match keysOf l with
      | some ks => ks.length < 1000 ∧ P (.int (cntK ks.reverse : Nat)) M1
      | none => False) := k1'
    cases u : keysOf l with
    | none => rw [u] at k2; exact k2.elim
    | some ks =>
      rw [u] at k2
      obtain ⟨a, xs, rfl, h1, h2⟩ := dl_at E1 r1 y
      refine ⟨a, ks, rfl, sq_of (by rw [h1, keysOf_rp u h2]), k2.1, fun z hz => ?_⟩
      have E2 : EnM K H0 F0 F1 M1 (upd H1 z (Cl z (memK ks) (cntK ks.reverse))) σ G := E1.grow (Ex.refl _) (Ex.new hz) (E1.en.ef.trans (Ex.new hz)) (Nw.refl _ _)
      exact ⟨z, _, _, rfl, upd_same, q _ M1 k2.2 _ F1 _ E2 f1 (.int _)⟩⟩⟩
theorem v_lenSet {K : PySem.W.Frag} {M : Sto} {G : List Sl} {P : D → Sto → Prop} {R : Addr → Sto → Prop} {a : BE K} : (bLenSet a).w M G P R = a.w M G (lenSetK P) R := rfl
theorem v_lenSetK {M : Sto} {P : D → Sto → Prop} {d : D} : lenSetK P d M = lenSetF P M (dl M d) := rfl
end Wp

set_option Elab.async false
set_option linter.all false
set_option maxRecDepth 100000
set_option maxHeartbeats 4000000
namespace Wp
open PySem PySem.Spec PyProof.Rows L2 Evl Cy
/-! the end of a loop's turn: what is forgotten -/
def endK (vs : List Nat) (P : Ot → Sto → Prop) : Ot → Sto → Prop
  | .nx G, M => P (.nx (wipeG G vs)) M
  | .ct G, M => P (.nx (wipeG G vs)) M
  | o, M => P o M
def tEnd (t : TS) : TS := fun D σ H => t { D with ct := D.nx } σ H
/-- in, not in: a sign in a text, a flat thing in a row of flat things -/
def flatD : D → Bool
  | .non => true
  | .bl _ => true
  | .int _ => true
  | .str _ => true
  | _ => false
def eqF : D → D → Bool
  | .non, .non => true
  | .bl a, .bl b => a == b
  | .int a, .int b => decide (a = b)
  | .str a, .str b => decide (a = b)
  | .bl a, .int b => decide ((if a then 1 else 0) = b)
  | .int a, .bl b => decide (a = (if b then 1 else 0))
  | _, _ => false
def inF (P : D → Sto → Prop) (M : Sto) (neg : Bool) (d : D) : Option (List D) → Prop
  | some l => (flatD d = true ∧ l.all flatD = true) ∧ P (.bl (if neg then !(l.any fun y => eqF y d) else l.any fun y => eqF y d)) M
  | none => False
def mIn (P : D → Sto → Prop) (M : Sto) (neg : Bool) : D → D → Prop
  | .str c, .str z => ∃ n, c = ⟨#[n]⟩ ∧ P (.bl (if neg then !decide (n ∈ z.cps.toList) else decide (n ∈ z.cps.toList))) M
  | d, .tup l => inF P M neg d (some l)
  | d, e => inF P M neg d (dl M e)
def inK2 (neg : Bool) (P : D → Sto → Prop) (d : D) : D → Sto → Prop := fun e M => mIn P M neg d e
def inK1 (neg : Bool) (b : WE) (G : List Sl) (P : D → Sto → Prop) (R : Addr → Sto → Prop) : D → Sto → Prop := fun d M => b M G (inK2 neg P d) R
def wIn (neg : Bool) (a b : WE) : WE := fun M G P R => a M G (inK1 neg b G P R) R
section
variable {K : PySem.W.Frag}
def bEnd (vs : List Nat) (b : BS K) : BS K := ⟨b.t, fun M G P => b.w M G fun o M' => match o with
  | .nx G => P (.nx (wipeG G vs)) M'
  | .ct G => P (.ct (wipeG G vs)) M'
  | o => P o M', ⟨fun {M G P} k {H0 F0 F H σ} E X D q => b.ok.run k E X D fun o M1 k1 => by
  cases o with
  | nx G1 => exact fun σ1 F1 H1 E1 f1 => q _ M1 k1 σ1 F1 H1 (fgt_ok E1 vs) f1
  | ct G1 => exact fun σ1 F1 H1 E1 f1 => q _ M1 k1 σ1 F1 H1 (fgt_ok E1 vs) f1
  | rt d => exact q _ M1 k1
  | ex C G1 => exact q _ M1 k1
  | bk G1 => exact q _ M1 k1⟩⟩
def endP (vs : List Nat) (P : Ot → Sto → Prop) : Ot → Sto → Prop := fun o M' => match o with
  | .nx G => P (.nx (wipeG G vs)) M'
  | .ct G => P (.ct (wipeG G vs)) M'
  | o => P o M'
theorem v_end {M : Sto} {G : List Sl} {P : Ot → Sto → Prop} {vs : List Nat} {b : BS K} : (bEnd vs b).w M G P = b.w M G (endP vs P) := rfl
theorem v_endN {M : Sto} {G : List Sl} {P : Ot → Sto → Prop} {vs : List Nat} : endP vs P (.nx G) M = P (.nx (wipeG G vs)) M := rfl
theorem v_endC {M : Sto} {G : List Sl} {P : Ot → Sto → Prop} {vs : List Nat} : endP vs P (.ct G) M = P (.ct (wipeG G vs)) M := rfl
theorem v_endR {M : Sto} {P : Ot → Sto → Prop} {vs : List Nat} {d : D} : endP vs P (.rt d) M = P (.rt d) M := rfl
theorem v_endX {M : Sto} {G : List Sl} {P : Ot → Sto → Prop} {vs : List Nat} {C : Addr} : endP vs P (.ex C G) M = P (.ex C G) M := rfl
theorem v_endB {M : Sto} {G : List Sl} {P : Ot → Sto → Prop} {vs : List Nat} : endP vs P (.bk G) M = P (.bk G) M := rfl
theorem rp_flat {F : Hp} {v : V} {d : D} (r : Rp K F v d) (h : flatD d = true) : flatV v = true := by
  cases r <;> first | rfl | cases h
theorem rpa_flat {F : Hp} : ∀ {vs : List V} {ds : List D}, RpA K F vs ds → ds.all flatD = true → vs.all flatV = true
  | _, _, .nil, _ => rfl
  | _, _, .cons r t, h => by
    rw [List.all_cons, Bool.and_eq_true] at h ⊢
    exact ⟨rp_flat r h.1, rpa_flat t h.2⟩
theorem eqF_eq {F : Hp} {v w : V} {d e : D} (r : Rp K F v d) (s : Rp K F w e) (h : flatD d = true) (k : flatD e = true) : eqV v w = eqF d e := by
  cases r <;> first | (cases h; done) | skip
  all_goals (cases s <;> first | (cases k; done) | skip)
  all_goals first | rfl | skip
  all_goals (unfold eqV eqF)
  all_goals first | rfl | (simp only [beq_iff_eq, Bool.eq_iff_iff, decide_eq_true_iff]) | skip
theorem any_eq {F : Hp} {w : V} {e : D} (s : Rp K F w e) (k : flatD e = true) : ∀ {vs : List V} {ds : List D}, RpA K F vs ds → ds.all flatD = true → (vs.any fun y => eqV y w) = ds.any fun y => eqF y e
  | _, _, .nil, _ => rfl
  | _, _, .cons r t, h => by
    rw [List.all_cons, Bool.and_eq_true] at h
    rw [List.any_cons, List.any_cons, eqF_eq r s h.1 k, any_eq s k t h.2]
theorem inF_ok {H0 F0 F H : Hp} {M : Sto} {σ : L2.St} {G : List Sl} {P : D → Sto → Prop} {neg : Bool} {x y : V} {d : D} {o : Option (List D)} {Q : VK} (E : EnM K H0 F0 F M H σ G) (h : inF P M neg d o) (r1 : Rp K F x d)
    (ho : ∀ l, o = some l → ∃ p xs, y = .ref p ∧ (SqL K H p xs ∨ SqT K H p xs) ∧ RpA K F xs l)
    (q : ∀ d M', P d M' → ∀ v F' H', EnM K H0 F0 F' M' H' σ G → Ex F F' → Rp K F' v d → Q v H') : rIn K neg x y H Q := by
  cases o with
  | none => exact h.elim
  | some l =>
    obtain ⟨⟨h1, h2⟩, h3⟩ := h
    obtain ⟨p, xs, rfl, h4, h5⟩ := ho l rfl
    refine ⟨p, xs, rfl, h4, rp_flat r1 h1, rpa_flat h5 h2, ?_⟩
    have e : inV x xs = l.any fun y => eqF y d := any_eq r1 h1 h5 h2
    rw [e]
    exact q _ M h3 _ F H E (Ex.refl F) (.bl _)
def bIn (neg : Bool) (a b : BE K) : BE K := ⟨fun X => tOp (if neg then gNi K else gIn K) (a.t X) (b.t X), wIn neg a.w b.w, ⟨fun {M G P R} k {H0 F0 F H σ} E X Q q qx =>
  a.ok.run k E X _ (fun d M1 k1 v F1 H1 E1 f1 r1 => b.ok.run k1 E1 X _ (fun c M2 k2 w F2 H2 E2 f2 r2 => by
    have r1' := r1.mono f2
    have q' : ∀ d M', P d M' → ∀ v F' H', EnM K H0 F0 F' M' H' σ G → Ex F2 F' → Rp K F' v d → Q v H' := fun d M' z v F' H' E' f' r' => q d M' z v F' H' E' ((f1.trans f2).trans f') r'
    have lst : ∀ {o : Option (List D)}, inF P M2 neg d o → (∀ l, o = some l → ∃ p xs, w = .ref p ∧ (SqL K H2 p xs ∨ SqT K H2 p xs) ∧ RpA K F2 xs l) → (if neg then gNi K else gIn K) v w H2 Q := fun {o} h ho => by
      have := inF_ok E2 h r1' ho q'
      cases neg with
      | true => exact Or.inr this
      | false => exact Or.inr this
    have k2' : mIn P M2 neg d c := k2
    unfold mIn at k2'
    split at k2'
    · obtain ⟨n, rfl, k3⟩ := k2'
      cases r1'
      cases r2
      cases neg with
      | true => exact Or.inl ⟨n, _, rfl, rfl, q' _ M2 k3 _ F2 H2 E2 (Ex.refl F2) (.bl _)⟩
      | false => exact Or.inl ⟨n, _, rfl, rfl, q' _ M2 k3 _ F2 H2 E2 (Ex.refl F2) (.bl _)⟩
    · refine lst k2' fun m e => ?_
      cases e
      obtain ⟨a, xs, h1, h2, h3⟩ := dt_at E2 r2 rfl
      exact ⟨a, xs, h1, .inr h2, h3⟩
    · refine lst k2' fun m e => ?_
      obtain ⟨a, xs, h1, h2, h3⟩ := dl_at E2 r2 e
      exact ⟨a, xs, h1, .inl (sq_of h2), h3⟩) fun C M' z F' H' E' f' => qx C M' z F' H' E' (f1.trans f')) qx⟩⟩
theorem v_in {M : Sto} {G : List Sl} {P : D → Sto → Prop} {R : Addr → Sto → Prop} {neg : Bool} {a b : BE K} : (bIn neg a b).w M G P R = a.w M G (inK1 neg b.w G P R) R := rfl
theorem v_inK1 {M : Sto} {G : List Sl} {P : D → Sto → Prop} {R : Addr → Sto → Prop} {neg : Bool} {b : WE} {d : D} : inK1 neg b G P R d M = b M G (inK2 neg P d) R := rfl
theorem v_inK2 {M : Sto} {P : D → Sto → Prop} {neg : Bool} {d e : D} : inK2 neg P d e M = mIn P M neg d e := rfl
theorem v_mInL {M : Sto} {P : D → Sto → Prop} {neg : Bool} {d : D} {l : List D} : mIn P M neg d (.lst l) = inF P M neg d (some l) := by
  cases d <;> rfl
theorem v_mInT {M : Sto} {P : D → Sto → Prop} {neg : Bool} {d : D} {l : List D} : mIn P M neg d (.tup l) = inF P M neg d (some l) := by
  cases d <;> rfl
theorem v_inF {M : Sto} {P : D → Sto → Prop} {neg : Bool} {d : D} {l : List D} : inF P M neg d (some l) = ((flatD d = true ∧ l.all flatD = true) ∧ P (.bl (if neg then !(l.any fun y => eqF y d) else l.any fun y => eqF y d)) M) := rfl
/-- repr of plain numbers, truths, None -/
def fRepr0 : WB := fun P ds M => match ds with
  | [.int i] => i.natAbs.log2 < 1920 ∧ P (.str (toString i)) M
  | [.bl b] => P (.str (reprB b)) M
  | [.non] => P (.str "None") M
  | _ => False
theorem sRepr0 : SB K gRepr fRepr0 := ⟨fun {M P ds} k {H0 F0 F H σ G} E {vs} rv Q q => by
  unfold fRepr0 at k
  split at k
  · exact sb_op (n_reprI k.1) k.2 E rv q
  · exact sb_op n_reprB k E rv q
  · exact sb_op n_reprN k E rv q
  · exact k.elim⟩
/-- text * number -/
def mMulS (P : D → Sto → Prop) (M : Sto) : D → D → Prop
  | .str z, .int k => (k = 0 ∨ k = 1) ∧ P (.str (if k = 1 then z else Str.empty)) M
  | _, _ => False
def mulSK2 (P : D → Sto → Prop) (d : D) : D → Sto → Prop := fun c M => mMulS P M d c
def mulSK1 (b : WE) (G : List Sl) (P : D → Sto → Prop) (R : Addr → Sto → Prop) : D → Sto → Prop := fun d M => b M G (mulSK2 P d) R
def wMulS (a b : WE) : WE := fun M G P R => a M G (mulSK1 b G P R) R
def bMulS (a b : BE K) : BE K := ⟨fun X => tOp gMulS (a.t X) (b.t X), wMulS a.w b.w, ⟨fun {M G P R} k {H0 F0 F H σ} E X Q q qx =>
  a.ok.run k E X _ (fun d M1 k1 v F1 H1 E1 f1 r1 => b.ok.run k1 E1 X _ (fun c M2 k2 w F2 H2 E2 f2 r2 => by
    have k2' : mMulS P M2 d c := k2
    unfold mMulS at k2'
    split at k2'
    · exact (d_repS (K := K) k2'.1).run (F := F2) E2.en.ef (r1.mono f2) r2 Q fun u F3 H3 f3 e3 g3 n3 r3 => q _ M2 k2'.2 u F3 H3 (E2.grow f3 g3 e3 n3) ((f1.trans f2).trans f3) r3
    · exact k2'.elim) fun C M' z F2 H2 E2 f2 => qx C M' z F2 H2 E2 (f1.trans f2)) fun C M' z F1 H1 E1 f1 => qx C M' z F1 H1 E1 f1⟩⟩
/-- xs[::-1] -/
def bRev (a : BE K) : BE K := ⟨fun X => tRevL K (a.t X), wRev a.w, ⟨fun {M G P R} k {H0 F0 F H σ} E X Q q qx =>
  a.ok.run k E X _ (fun d M1 k1 v F1 H1 E1 f1 r1 => by
    have k1' : (match dl M1 d with
      | some l => P (.lst l.reverse) M1
      | none => False) := k1
    cases z : dl M1 d with
    | none => rw [z] at k1'; exact k1'.elim
    | some l =>
      rw [z] at k1'
      obtain ⟨a, xs, rfl, h1, h2⟩ := dl_at E1 r1 z
      refine ⟨a, xs, rfl, sq_of h1, fun p hp => ?_⟩
      obtain ⟨E2, e2⟩ := frozen E1 hp (.lst xs.reverse)
      exact q _ _ k1' _ _ _ E2 (f1.trans e2) (.lst upd_same (h2.rev.mono e2))) qx⟩⟩
theorem v_rev {M : Sto} {G : List Sl} {P : D → Sto → Prop} {R : Addr → Sto → Prop} {a : BE K} : (bRev a).w M G P R = a.w M G (revK P) R := rfl
theorem v_revL {M : Sto} {P : D → Sto → Prop} {l : List D} : revK P (.lst l) M = P (.lst l.reverse) M := rfl
theorem kw_g {g : BG K} {vs : List Nat} (h : KeepW g.g vs) : Keeps g.g vs := keeps_of h
/-- the law's own def: nothing is let out -/
def outL (Pr : Res → Sto → Prop) : Ot → Sto → Prop
  | .rt d, M => Pr (.ok d) M
  | .nx _, M => Pr (.ok .non) M
  | _, _ => False
theorem v_outLR {M : Sto} {d : D} {pr : Res → Sto → Prop} : outL pr (.rt d) M = pr (.ok d) M := rfl
theorem body_WL {N : List Str} {Rel : RelM} {vs : List V} {H : Hp} {Q : VK} {E : XK} {b : BS K} (h : spM K Rel vs H Q E) (hn : ∀ ds M P, Rel ds M P → ds.length ≤ N.length) (hb : ∀ ds M P, Rel ds M P → b.w M (args N.length ds) (outL P)) :
    b.t (fun _ => E0) { nx := fun _ H' => Q .non H', rt := Q } (L2.start N vs) H := by
  obtain ⟨F, ds, M, P, e, ra, c, hR, q⟩ := h
  have E1 := start_M e ra (hn ds M P hR) c
  refine b.ok.run (hb ds M P hR) E1 _ _ fun o M' z => ?_
  cases o with
  | nx G => exact fun σ F' H' E' f' => q (.ok .non) M' z .non F' H' E'.rom .non
  | rt d => exact fun v F' H' ro f' r1 => q (.ok d) M' z v F' H' ro r1
  | ex C G => exact z.elim
  | bk G => exact z.elim
  | ct G => exact z.elim
end
/-! how a try is read -/
theorem ps_tryW {X : Cx} {x n : Str} {c : Value} {i m : Nat} {body : List Stmt} {b₀ : Stmt} {np pos pos' : Pos} {tb : FX → TS} (hs : X.stack = X.env :: X.outer) (hf : X.env.frame = some X.env.locals) (hN : X.N.Nodup) (hi : X.N[i]? = some n) (hln : X.env.kindOf n = some .local) (hc : Names X x c) (hcell : X.env.cells = []) (hex : X.ex = [])
    (hb : ∀ (W : WX) (pn : List (Addr × Obj)) (xe : Value → Shared → Prop), Takes (X.tr pn xe) W → PassesOwn (model X.prog X.w) X.A X.env xe → PSs (X.tr pn xe) body (tb (L2.WE W)))
    (hsu : ∀ (a : Addr) (pn : List (Addr × Obj)), PS (X.suite a pn) b₀ (tAsg (tVar i) (gName m))) : PS X (.Try body [.ExceptHandler (some (.Name x np)) (some n) [b₀] pos'] [] [] pos) (tTryW X.K c i m tb) :=
  ps_try_kept (tb := fun W => tb (L2.WE W)) (ts := fun _ _ _ => tAsg (tVar i) (gName m)) hs hf hN hi hln hc takes0 hcell hex (fun W pn xe tk po => hb W pn xe tk po) fun a oe cls d pn _ _ => pss_one (hsu a _)
theorem see_no (d : D) : see noM d = d := by
  cases d <;> rfl
theorem v_isiI {M : Sto} {P : D → Sto → Prop} {d : D} (h : noObj (see M d) = true) : isiK "int" P d M = P (.bl (isI (see M d))) M := by
  unfold isiK
  rw [kit_int h, h, eq_self, true_and]
  rfl
theorem v_isiB {M : Sto} {P : D → Sto → Prop} {d : D} (h : noObj (see M d) = true) : isiK "bool" P d M = P (.bl (isB (see M d))) M := by
  unfold isiK
  rw [kit_bool h, h, eq_self, true_and]
  rfl
theorem v_isiS {M : Sto} {P : D → Sto → Prop} {d : D} (h : noObj (see M d) = true) : isiK "str" P d M = P (.bl (isS (see M d))) M := by
  unfold isiK
  rw [kit_str h, h, eq_self, true_and]
  rfl
theorem v_isiL {M : Sto} {P : D → Sto → Prop} {d : D} (h : noObj (see M d) = true) : isiK "list" P d M = P (.bl (isL (see M d))) M := by
  unfold isiK
  rw [kit_list h, h, eq_self, true_and]
  rfl
theorem v_isiT {M : Sto} {P : D → Sto → Prop} {d : D} (h : noObj (see M d) = true) : isiK "tuple" P d M = P (.bl (isT (see M d))) M := by
  unfold isiK
  rw [kit_tuple h, h, eq_self, true_and]
  rfl
/-! rules for what is gone through -/
def lcE (el : WE) (M : Sto) (Q : D → Sto → Prop) : List Sl → Prop := fun G => el M G Q noR
theorem v_lcE {el : WE} {M : Sto} {Q : D → Sto → Prop} {G : List Sl} : lcE el M Q G = el M G Q noR := rfl
/-- each part of a list comprehension is what f tells, and nothing changes -/
theorem lc_map {K : PySem.W.Frag} {g : BG K} {el : BE K} {vs : List Nat} {G : List Sl} {P : List D → Sto → Prop} {items : List D} {gd : Sto → Prop} {M : Sto} (f : D → D) (hno : noOwn G = true) (hz : items.length ≤ 40000) (hg : gd M)
    (h : ∀ d ∈ items, ∀ Q : D → Sto → Prop, Q (f d) M → g.w d (wipeG G vs) (lcE el.w M Q)) (hp : P (items.map f) M) : lcK g.w (bYes (K := K)).w el.w vs G P items gd M := by
  refine ⟨hno, hz, fun i acc M' => M' = M ∧ acc = (items.take i).map f, ⟨rfl, rfl⟩, fun i acc M' d hd hI => ?_, fun acc M' hI => ?_⟩
  · obtain ⟨rfl, rfl⟩ := hI
    refine ⟨hg, by rw [List.length_map, List.length_take]; omega, ?_⟩
    exact h d (List.mem_of_getElem? hd) _ ⟨rfl, by rw [List.take_succ, hd, List.map_append]; rfl⟩
  · obtain ⟨rfl, rfl⟩ := hI
    exact ⟨hg, by rw [List.take_length]; exact hp⟩
/-- .. with a test -/
theorem lc_filter {K : PySem.W.Frag} {g : BG K} {tt : BT K} {el : BE K} {vs : List Nat} {G : List Sl} {P : List D → Sto → Prop} {items : List D} {gd : Sto → Prop} {M : Sto} (t : D → Bool) (f : D → D) (hno : noOwn G = true) (hz : items.length ≤ 40000) (hg : gd M)
    (h : ∀ d ∈ items, ∀ (I : Nat → List D → Sto → Prop) (i : Nat) (acc : List D), (if t d = true then I (i + 1) (acc ++ [f d]) M else I (i + 1) acc M) → g.w d (wipeG G vs) (lcT tt.w el.w I i acc M)) (hp : P ((items.filter t).map f) M) : lcK g.w tt.w el.w vs G P items gd M := by
  refine ⟨hno, hz, fun i acc M' => M' = M ∧ acc = ((items.take i).filter t).map f, ⟨rfl, rfl⟩, fun i acc M' d hd hI => ?_, fun acc M' hI => ?_⟩
  · obtain ⟨rfl, rfl⟩ := hI
    refine ⟨hg, ?_, ?_⟩
    · rw [List.length_map]
      refine Nat.le_trans (List.length_filter_le _ _) ?_
      rw [List.length_take]
      omega
    · refine h d (List.mem_of_getElem? hd) _ i _ ?_
      have e : items.take (i + 1) = items.take i ++ [d] := by rw [List.take_succ, hd]; rfl
      cases q : t d with
      | true =>
        rw [if_pos rfl, e, List.filter_append]
        refine ⟨rfl, ?_⟩
        rw [List.map_append, List.filter_cons_of_pos q]
        rfl
      | false =>
        rw [if_neg Bool.false_ne_true, e, List.filter_append, List.filter_cons_of_neg (by rw [q]; exact Bool.false_ne_true)]
        exact ⟨rfl, by rw [List.filter_nil, List.append_nil]⟩
  · obtain ⟨rfl, rfl⟩ := hI
    exact ⟨hg, by rw [List.take_length]; exact hp⟩
theorem nob_non  : noObj .non = true := rfl
theorem isI_non  : Cy.isI .non = false := rfl
theorem isB_non  : Cy.isB .non = false := rfl
theorem isS_non  : Cy.isS .non = false := rfl
theorem isL_non  : Cy.isL .non = false := rfl
theorem isT_non  : Cy.isT .non = false := rfl
theorem nob_bl {b : Bool} : noObj (.bl b) = true := rfl
theorem isI_bl {b : Bool} : Cy.isI (.bl b) = true := rfl
theorem isB_bl {b : Bool} : Cy.isB (.bl b) = true := rfl
theorem isS_bl {b : Bool} : Cy.isS (.bl b) = false := rfl
theorem isL_bl {b : Bool} : Cy.isL (.bl b) = false := rfl
theorem isT_bl {b : Bool} : Cy.isT (.bl b) = false := rfl
theorem nob_int {i : Int} : noObj (.int i) = true := rfl
theorem isI_int {i : Int} : Cy.isI (.int i) = true := rfl
theorem isB_int {i : Int} : Cy.isB (.int i) = false := rfl
theorem isS_int {i : Int} : Cy.isS (.int i) = false := rfl
theorem isL_int {i : Int} : Cy.isL (.int i) = false := rfl
theorem isT_int {i : Int} : Cy.isT (.int i) = false := rfl
theorem nob_str {s : Str} : noObj (.str s) = true := rfl
theorem isI_str {s : Str} : Cy.isI (.str s) = false := rfl
theorem isB_str {s : Str} : Cy.isB (.str s) = false := rfl
theorem isS_str {s : Str} : Cy.isS (.str s) = true := rfl
theorem isL_str {s : Str} : Cy.isL (.str s) = false := rfl
theorem isT_str {s : Str} : Cy.isT (.str s) = false := rfl
theorem nob_lst {l : List D} : noObj (.lst l) = true := rfl
theorem isI_lst {l : List D} : Cy.isI (.lst l) = false := rfl
theorem isB_lst {l : List D} : Cy.isB (.lst l) = false := rfl
theorem isS_lst {l : List D} : Cy.isS (.lst l) = false := rfl
theorem isL_lst {l : List D} : Cy.isL (.lst l) = true := rfl
theorem isT_lst {l : List D} : Cy.isT (.lst l) = false := rfl
theorem nob_tup {l : List D} : noObj (.tup l) = true := rfl
theorem isI_tup {l : List D} : Cy.isI (.tup l) = false := rfl
theorem isB_tup {l : List D} : Cy.isB (.tup l) = false := rfl
theorem isS_tup {l : List D} : Cy.isS (.tup l) = false := rfl
theorem isL_tup {l : List D} : Cy.isL (.tup l) = false := rfl
theorem isT_tup {l : List D} : Cy.isT (.tup l) = true := rfl
theorem nob_dic {e : List (Key × D)} : noObj (.dic e) = true := rfl
theorem isI_dic {e : List (Key × D)} : Cy.isI (.dic e) = false := rfl
theorem isB_dic {e : List (Key × D)} : Cy.isB (.dic e) = false := rfl
theorem isS_dic {e : List (Key × D)} : Cy.isS (.dic e) = false := rfl
theorem isL_dic {e : List (Key × D)} : Cy.isL (.dic e) = false := rfl
theorem isT_dic {e : List (Key × D)} : Cy.isT (.dic e) = false := rfl
theorem nob_scr {n : List Int} : noObj (.scr n) = true := rfl
theorem isI_scr {n : List Int} : Cy.isI (.scr n) = false := rfl
theorem isB_scr {n : List Int} : Cy.isB (.scr n) = false := rfl
theorem isS_scr {n : List Int} : Cy.isS (.scr n) = false := rfl
theorem isL_scr {n : List Int} : Cy.isL (.scr n) = true := rfl
theorem isT_scr {n : List Int} : Cy.isT (.scr n) = false := rfl
theorem v_isiI_non {M : Sto} {P : D → Sto → Prop}  : isiK "int" P .non M = P (.bl false) M := by
  rw [v_isiI (by rfl)]
  rfl
theorem v_isiB_non {M : Sto} {P : D → Sto → Prop}  : isiK "bool" P .non M = P (.bl false) M := by
  rw [v_isiB (by rfl)]
  rfl
theorem v_isiS_non {M : Sto} {P : D → Sto → Prop}  : isiK "str" P .non M = P (.bl false) M := by
  rw [v_isiS (by rfl)]
  rfl
theorem v_isiL_non {M : Sto} {P : D → Sto → Prop}  : isiK "list" P .non M = P (.bl false) M := by
  rw [v_isiL (by rfl)]
  rfl
theorem v_isiT_non {M : Sto} {P : D → Sto → Prop}  : isiK "tuple" P .non M = P (.bl false) M := by
  rw [v_isiT (by rfl)]
  rfl
theorem v_isiI_bl {M : Sto} {P : D → Sto → Prop} {b : Bool} : isiK "int" P (.bl b) M = P (.bl true) M := by
  rw [v_isiI (by rfl)]
  rfl
theorem v_isiB_bl {M : Sto} {P : D → Sto → Prop} {b : Bool} : isiK "bool" P (.bl b) M = P (.bl true) M := by
  rw [v_isiB (by rfl)]
  rfl
theorem v_isiS_bl {M : Sto} {P : D → Sto → Prop} {b : Bool} : isiK "str" P (.bl b) M = P (.bl false) M := by
  rw [v_isiS (by rfl)]
  rfl
theorem v_isiL_bl {M : Sto} {P : D → Sto → Prop} {b : Bool} : isiK "list" P (.bl b) M = P (.bl false) M := by
  rw [v_isiL (by rfl)]
  rfl
theorem v_isiT_bl {M : Sto} {P : D → Sto → Prop} {b : Bool} : isiK "tuple" P (.bl b) M = P (.bl false) M := by
  rw [v_isiT (by rfl)]
  rfl
theorem v_isiI_int {M : Sto} {P : D → Sto → Prop} {i : Int} : isiK "int" P (.int i) M = P (.bl true) M := by
  rw [v_isiI (by rfl)]
  rfl
theorem v_isiB_int {M : Sto} {P : D → Sto → Prop} {i : Int} : isiK "bool" P (.int i) M = P (.bl false) M := by
  rw [v_isiB (by rfl)]
  rfl
theorem v_isiS_int {M : Sto} {P : D → Sto → Prop} {i : Int} : isiK "str" P (.int i) M = P (.bl false) M := by
  rw [v_isiS (by rfl)]
  rfl
theorem v_isiL_int {M : Sto} {P : D → Sto → Prop} {i : Int} : isiK "list" P (.int i) M = P (.bl false) M := by
  rw [v_isiL (by rfl)]
  rfl
theorem v_isiT_int {M : Sto} {P : D → Sto → Prop} {i : Int} : isiK "tuple" P (.int i) M = P (.bl false) M := by
  rw [v_isiT (by rfl)]
  rfl
theorem v_isiI_str {M : Sto} {P : D → Sto → Prop} {s : Str} : isiK "int" P (.str s) M = P (.bl false) M := by
  rw [v_isiI (by rfl)]
  rfl
theorem v_isiB_str {M : Sto} {P : D → Sto → Prop} {s : Str} : isiK "bool" P (.str s) M = P (.bl false) M := by
  rw [v_isiB (by rfl)]
  rfl
theorem v_isiS_str {M : Sto} {P : D → Sto → Prop} {s : Str} : isiK "str" P (.str s) M = P (.bl true) M := by
  rw [v_isiS (by rfl)]
  rfl
theorem v_isiL_str {M : Sto} {P : D → Sto → Prop} {s : Str} : isiK "list" P (.str s) M = P (.bl false) M := by
  rw [v_isiL (by rfl)]
  rfl
theorem v_isiT_str {M : Sto} {P : D → Sto → Prop} {s : Str} : isiK "tuple" P (.str s) M = P (.bl false) M := by
  rw [v_isiT (by rfl)]
  rfl
theorem v_isiI_lst {M : Sto} {P : D → Sto → Prop} {l : List D} : isiK "int" P (.lst l) M = P (.bl false) M := by
  rw [v_isiI (by rfl)]
  rfl
theorem v_isiB_lst {M : Sto} {P : D → Sto → Prop} {l : List D} : isiK "bool" P (.lst l) M = P (.bl false) M := by
  rw [v_isiB (by rfl)]
  rfl
theorem v_isiS_lst {M : Sto} {P : D → Sto → Prop} {l : List D} : isiK "str" P (.lst l) M = P (.bl false) M := by
  rw [v_isiS (by rfl)]
  rfl
theorem v_isiL_lst {M : Sto} {P : D → Sto → Prop} {l : List D} : isiK "list" P (.lst l) M = P (.bl true) M := by
  rw [v_isiL (by rfl)]
  rfl
theorem v_isiT_lst {M : Sto} {P : D → Sto → Prop} {l : List D} : isiK "tuple" P (.lst l) M = P (.bl false) M := by
  rw [v_isiT (by rfl)]
  rfl
theorem v_isiI_tup {M : Sto} {P : D → Sto → Prop} {l : List D} : isiK "int" P (.tup l) M = P (.bl false) M := by
  rw [v_isiI (by rfl)]
  rfl
theorem v_isiB_tup {M : Sto} {P : D → Sto → Prop} {l : List D} : isiK "bool" P (.tup l) M = P (.bl false) M := by
  rw [v_isiB (by rfl)]
  rfl
theorem v_isiS_tup {M : Sto} {P : D → Sto → Prop} {l : List D} : isiK "str" P (.tup l) M = P (.bl false) M := by
  rw [v_isiS (by rfl)]
  rfl
theorem v_isiL_tup {M : Sto} {P : D → Sto → Prop} {l : List D} : isiK "list" P (.tup l) M = P (.bl false) M := by
  rw [v_isiL (by rfl)]
  rfl
theorem v_isiT_tup {M : Sto} {P : D → Sto → Prop} {l : List D} : isiK "tuple" P (.tup l) M = P (.bl true) M := by
  rw [v_isiT (by rfl)]
  rfl
theorem v_isiI_dic {M : Sto} {P : D → Sto → Prop} {e : List (Key × D)} : isiK "int" P (.dic e) M = P (.bl false) M := by
  rw [v_isiI (by rfl)]
  rfl
theorem v_isiB_dic {M : Sto} {P : D → Sto → Prop} {e : List (Key × D)} : isiK "bool" P (.dic e) M = P (.bl false) M := by
  rw [v_isiB (by rfl)]
  rfl
theorem v_isiS_dic {M : Sto} {P : D → Sto → Prop} {e : List (Key × D)} : isiK "str" P (.dic e) M = P (.bl false) M := by
  rw [v_isiS (by rfl)]
  rfl
theorem v_isiL_dic {M : Sto} {P : D → Sto → Prop} {e : List (Key × D)} : isiK "list" P (.dic e) M = P (.bl false) M := by
  rw [v_isiL (by rfl)]
  rfl
theorem v_isiT_dic {M : Sto} {P : D → Sto → Prop} {e : List (Key × D)} : isiK "tuple" P (.dic e) M = P (.bl false) M := by
  rw [v_isiT (by rfl)]
  rfl
theorem v_isiI_scr {M : Sto} {P : D → Sto → Prop} {n : List Int} : isiK "int" P (.scr n) M = P (.bl false) M := by
  rw [v_isiI (by rfl)]
  rfl
theorem v_isiB_scr {M : Sto} {P : D → Sto → Prop} {n : List Int} : isiK "bool" P (.scr n) M = P (.bl false) M := by
  rw [v_isiB (by rfl)]
  rfl
theorem v_isiS_scr {M : Sto} {P : D → Sto → Prop} {n : List Int} : isiK "str" P (.scr n) M = P (.bl false) M := by
  rw [v_isiS (by rfl)]
  rfl
theorem v_isiL_scr {M : Sto} {P : D → Sto → Prop} {n : List Int} : isiK "list" P (.scr n) M = P (.bl true) M := by
  rw [v_isiL (by rfl)]
  rfl
theorem v_isiT_scr {M : Sto} {P : D → Sto → Prop} {n : List Int} : isiK "tuple" P (.scr n) M = P (.bl false) M := by
  rw [v_isiT (by rfl)]
  rfl
/-! where a truth isn't known yet -/
section
variable {M : Sto} {G : List Sl} {P : D → Sto → Prop} {PB : Bool → Sto → Prop} {S : Ot → Sto → Prop} {R : Addr → Sto → Prop} {x y : Bool}
theorem ch_of {c : WE} {f' : FO} {e : D} (h : x = true → ∀ Q : D → Sto → Prop, Q (.bl y) M → c M G (opK2 f' Q e) R) (hp : P (.bl (x && y)) M) : chK3 c f' G P R e (.bl x) M := by
  cases x with
  | true => exact h rfl P hp
  | false => exact hp
theorem and_of {b : WE} (h : x = true → ∀ Q : D → Sto → Prop, Q (.bl y) M → b M G Q R) (hp : P (.bl (x && y)) M) : andK b G P R (.bl x) M := by
  cases x with
  | true => exact h rfl P hp
  | false => exact hp
theorem or_of {b : WE} (h : x = false → ∀ Q : D → Sto → Prop, Q (.bl y) M → b M G Q R) (hp : P (.bl (x || y)) M) : orK b G P R (.bl x) M := by
  cases x with
  | false => exact h rfl P hp
  | true => exact hp
theorem an_of {b : WT} (h : x = true → ∀ Q : Bool → Sto → Prop, Q y M → b M G Q R) (hp : PB (x && y) M) : anK b G PB R x M := by
  cases x with
  | true => exact h rfl PB hp
  | false => exact hp
theorem orr_of {b : WT} (h : x = false → ∀ Q : Bool → Sto → Prop, Q y M → b M G Q R) (hp : PB (x || y) M) : orrK b G PB R x M := by
  cases x with
  | false => exact h rfl PB hp
  | true => exact hp
theorem if_of {a b : WS} (h1 : x = true → a M G S) (h2 : x = false → b M G S) : ifK a b G S x M := by
  cases x with
  | true => exact h1 rfl
  | false => exact h2 rfl
theorem ite_of {a b : WE} (h1 : x = true → a M G P R) (h2 : x = false → b M G P R) : iteK a b G P R x M := by
  cases x with
  | true => exact h1 rfl
  | false => exact h2 rfl
theorem seeA_no (l : List D) : l.map (see noM) = l := by
  induction l with
  | nil => rfl
  | cons d l ih => rw [List.map_cons, ih, see_no]
/-- a call of a def over data -/
theorem call_X {T : List D → Res → Prop} {ds : List D} (r : Res) (h : T (ds.map (see M)) r) (hf : flR r = true ∨ ds.map (see M) = ds) (k : resK P R r M) : callXK T P R ds M := ⟨r, h, hf, k⟩
theorem call_O {T : List D → List D → Prop} {ds : List D} (l : List D) (h : T (ds.map (see M)) l) (hf : flA l = true ∨ ds.map (see M) = ds) (k : P (.lst l) M) : callOK T P ds M := ⟨l, h, hf, k⟩
theorem call_M {T : RelM} {ds : List D} {Pr : Res → Sto → Prop} (h : T ds M Pr) (k : ∀ r M', Pr r M' → resK P R r M') : callMK T P R ds M := ⟨Pr, h, k⟩
end
end Wp

set_option Elab.async false
set_option linter.all false
set_option maxRecDepth 100000
set_option maxHeartbeats 4000000
namespace Wp
open PySem PySem.Spec PyProof.Rows L2 Evl Cy
/-! parts of the store that stand apart -/
abbrev Pins := List (Addr × Nd)
def PLe (ps qs : Pins) : Prop := ∀ x, x ∈ ps → x ∈ qs
theorem PLe.refl (ps : Pins) : PLe ps ps := fun _ h => h
theorem PLe.trans {a b c : Pins} (h : PLe a b) (k : PLe b c) : PLe a c := fun x z => k x (h x z)
structure Ch where
  p : Pins → List Addr → Sto → Prop
  mono : ∀ {ps qs fp M}, p ps fp M → PLe ps qs → p qs fp M
  cong : ∀ {ps fp M M'}, p ps fp M → (∀ a ∈ fp, M' a = M a) → p ps fp M'
  some : ∀ {ps fp M}, p ps fp M → ∀ a ∈ fp, M a ≠ none
def SepF (ps : Pins) (M : Sto) : List Ch → List Addr → Prop
  | [], fp => fp = []
  | c :: cs, fp => ∃ f g, fp = f ++ g ∧ c.p ps f M ∧ SepF ps M cs g
structure Sep (ps : Pins) (cs : List Ch) (M : Sto) : Prop where
  ex : ∃ fp, fp.Nodup ∧ SepF ps M cs fp ∧ ∀ x ∈ ps, M x.1 = some x.2 ∧ x.1 ∉ fp
section
variable {ps qs : Pins} {M M' : Sto} {cs ds : List Ch} {c d : Ch} {fp : List Addr}
theorem SepF.mono : ∀ {cs : List Ch} {fp : List Addr}, SepF ps M cs fp → PLe ps qs → SepF qs M cs fp
  | [], _, h, _ => h
  | c :: cs, _, h, e => by
    obtain ⟨f, g, r, h1, h2⟩ := h
    exact ⟨f, g, r, c.mono h1 e, SepF.mono h2 e⟩
theorem SepF.cong : ∀ {cs : List Ch} {fp : List Addr}, SepF ps M cs fp → (∀ a ∈ fp, M' a = M a) → SepF ps M' cs fp
  | [], _, h, _ => h
  | c :: cs, _, h, e => by
    obtain ⟨f, g, rfl, h1, h2⟩ := h
    exact ⟨f, g, rfl, c.cong h1 fun a ha => e a (List.mem_append_left _ ha), SepF.cong h2 fun a ha => e a (List.mem_append_right _ ha)⟩
theorem SepF.some : ∀ {cs : List Ch} {fp : List Addr}, SepF ps M cs fp → ∀ a ∈ fp, M a ≠ none
  | [], _, h, a, ha => by rw [show _ = [] from h] at ha; cases ha
  | c :: cs, _, h, a, ha => by
    obtain ⟨f, g, rfl, h1, h2⟩ := h
    rcases List.mem_append.mp ha with z | z
    · exact c.some h1 a z
    · exact SepF.some h2 a z
theorem SepF.app : ∀ {cs ds : List Ch} {fp gp : List Addr}, SepF ps M cs fp → SepF ps M ds gp → SepF ps M (cs ++ ds) (fp ++ gp)
  | [], _, _, _, h, k => by rw [show _ = [] from h]; exact k
  | c :: cs, _, _, _, h, k => by
    obtain ⟨f, g, rfl, h1, h2⟩ := h
    exact ⟨f, g ++ _, by rw [List.append_assoc], h1, SepF.app h2 k⟩
theorem SepF.split : ∀ {cs ds : List Ch} {fp : List Addr}, SepF ps M (cs ++ ds) fp → ∃ f g, fp = f ++ g ∧ SepF ps M cs f ∧ SepF ps M ds g
  | [], _, fp, h => ⟨[], fp, rfl, rfl, h⟩
  | c :: cs, _, _, h => by
    obtain ⟨f, g, rfl, h1, h2⟩ := h
    obtain ⟨f2, g2, rfl, h3, h4⟩ := SepF.split (cs := cs) h2
    exact ⟨f ++ f2, g2, by rw [List.append_assoc], ⟨f, f2, rfl, h1, h3⟩, h4⟩
/-- one part gives place to others -/
theorem Sep.step {es : List Ch} (h : Sep ps (c :: cs) M) (k : ∀ f, c.p ps f M → f.Nodup → (∀ x ∈ ps, M x.1 = some x.2 ∧ x.1 ∉ f) → ∃ f', SepF ps M' es f' ∧ f'.Nodup ∧ (∀ a ∈ f', a ∈ f ∨ M a = none) ∧ ∀ a, a ∉ f → M a ≠ none → M' a = M a) : Sep ps (es ++ cs) M' := by
  obtain ⟨_, hn, ⟨f, g, rfl, h1, h2⟩, hp⟩ := h.ex
  have hn' := List.nodup_append.mp hn
  have hg : ∀ a ∈ g, a ∉ f := fun a ha q => hn'.2.2 a q a ha rfl
  obtain ⟨f', k1, k2, k3, k4⟩ := k f h1 hn'.1 fun x hx => ⟨(hp x hx).1, fun q => (hp x hx).2 (List.mem_append_left _ q)⟩
  refine ⟨f' ++ g, List.nodup_append.mpr ⟨k2, hn'.2.1, fun a ha b hb e => ?_⟩, k1.app (h2.cong fun a ha => k4 a (hg a ha) (h2.some a ha)), fun x hx => ?_⟩
  · subst e
    rcases k3 a ha with z | z
    · exact hg a hb z
    · exact h2.some a hb z
  · obtain ⟨p1, p2⟩ := hp x hx
    have q1 : x.1 ∉ f := fun q => p2 (List.mem_append_left _ q)
    have q2 : M x.1 ≠ none := by rw [p1]; exact fun z => nomatch z
    refine ⟨by rw [k4 _ q1 q2, p1], fun q => ?_⟩
    rcases List.mem_append.mp q with z | z
    · rcases k3 _ z with y | y
      · exact q1 y
      · exact q2 y
    · exact p2 (List.mem_append_right _ z)
theorem SepF.perm (h : cs.Perm ds) : ∀ {fp : List Addr}, SepF ps M cs fp → ∃ gp, SepF ps M ds gp ∧ fp.Perm gp := by
  induction h with
  | nil => exact fun h => ⟨_, h, List.Perm.refl _⟩
  | cons c _ ih =>
    rintro _ ⟨f, g, rfl, h1, h2⟩
    obtain ⟨gp, k1, k2⟩ := ih h2
    exact ⟨f ++ gp, ⟨f, gp, rfl, h1, k1⟩, k2.append_left f⟩
  | swap c d l =>
    rintro _ ⟨f, _, rfl, h1, f2, g, rfl, h2, h3⟩
    refine ⟨f2 ++ (f ++ g), ⟨f2, _, rfl, h2, f, g, rfl, h1, h3⟩, ?_⟩
    rw [← List.append_assoc, ← List.append_assoc]
    exact List.perm_append_comm.append_right g
  | trans _ _ i1 i2 =>
    intro fp h
    obtain ⟨gp, k1, k2⟩ := i1 h
    obtain ⟨hp, k3, k4⟩ := i2 k1
    exact ⟨hp, k3, k2.trans k4⟩
theorem Sep.perm (h : Sep ps cs M) (e : cs.Perm ds) : Sep ps ds M := by
  obtain ⟨fp, h1, h2, h3⟩ := h.ex
  obtain ⟨gp, k1, k2⟩ := SepF.perm e h2
  exact ⟨gp, k2.nodup_iff.mp h1, k1, fun x hx => ⟨(h3 x hx).1, fun q => (h3 x hx).2 (k2.mem_iff.mpr q)⟩⟩
theorem perm_at : ∀ {cs : List Ch} {i : Nat} {c : Ch}, cs[i]? = some c → cs.Perm (c :: cs.eraseIdx i)
  | d :: cs, 0, c, h => by
    have e : d = c := by simpa using h
    subst e
    exact List.Perm.refl _
  | d :: cs, i + 1, c, h => by
    have h' : cs[i]? = some c := by simpa using h
    exact ((perm_at h').cons d).trans (List.Perm.swap c d _)
  | [], i, c, h => by simp at h
theorem perm_set : ∀ {cs : List Ch} {i : Nat} {c : Ch} (e : Ch), cs[i]? = some c → (e :: cs.eraseIdx i).Perm (cs.set i e)
  | d :: cs, 0, c, e, h => List.Perm.refl _
  | d :: cs, i + 1, c, e, h => by
    have h' : cs[i]? = some c := by simpa using h
    exact (List.Perm.swap d e _).trans ((perm_set e h').cons d)
  | [], i, c, e, h => by simp at h
/-- the part at i comes to be the first one -/
theorem Sep.at (h : Sep ps cs M) (i : Nat) (hi : cs[i]? = some c) : Sep ps (c :: cs.eraseIdx i) M := h.perm (perm_at hi)
theorem Sep.back (i : Nat) (hi : cs[i]? = some c) (h : Sep ps (d :: cs.eraseIdx i) M) : Sep ps (cs.set i d) M := h.perm (perm_set d hi)
theorem Sep.pinned (h : Sep ps cs M) {a : Addr} {n : Nd} (hx : (a, n) ∈ ps) : M a = some n := by
  obtain ⟨_, _, _, hp⟩ := h.ex
  exact (hp _ hx).1
theorem Sep.drop (h : Sep ps (c :: cs) M) : Sep ps cs M := h.step (es := []) fun f _ _ _ => ⟨[], rfl, List.nodup_nil, fun a ha => absurd ha List.not_mem_nil, fun a _ _ => rfl⟩
theorem Sep.nil (M : Sto) : Sep [] [] M := ⟨[], List.nodup_nil, rfl, fun x h => absurd h List.not_mem_nil⟩
theorem Sep.left (h : Sep ps (cs ++ ds) M) : Sep ps cs M := by
  obtain ⟨_, hn, hs, hp⟩ := h.ex
  obtain ⟨f, g, rfl, h1, h2⟩ := SepF.split hs
  exact ⟨f, (List.nodup_append.mp hn).1, h1, fun x hx => ⟨(hp x hx).1, fun q => (hp x hx).2 (List.mem_append_left _ q)⟩⟩
end
/-! one cell, many cells, what is pinned, what is so -/
def cell (a : Addr) (n : Nd) : Ch := ⟨fun _ fp M => fp = [a] ∧ M a = some n, fun h _ => h, fun h e => ⟨h.1, by rw [e a (by rw [h.1]; exact List.mem_singleton.mpr rfl)]; exact h.2⟩, fun h b hb => by
  rw [h.1] at hb
  rw [List.mem_singleton.mp hb, h.2]
  exact fun z => nomatch z⟩
def fam (as : List Addr) (ns : List Nd) : Ch := ⟨fun _ fp M => fp = as ∧ as.map M = ns.map some, fun h _ => h, fun h e => ⟨h.1, by
  rw [← h.2]
  refine List.map_congr_left fun a ha => e a (by rw [h.1]; exact ha)⟩, fun h b hb => by
  rw [h.1] at hb
  have h2 := h.2
  intro q
  have : none ∈ ns.map some := by
    rw [← h2]
    exact List.mem_map.mpr ⟨b, hb, q⟩
  obtain ⟨n, _, z⟩ := List.mem_map.mp this
  cases z⟩
def pinC (a : Addr) (n : Nd) : Ch := ⟨fun ps fp _ => fp = [] ∧ (a, n) ∈ ps, fun h e => ⟨h.1, e _ h.2⟩, fun h _ => h, fun h b hb => by rw [h.1] at hb; cases hb⟩
def so (φ : Prop) : Ch := ⟨fun _ fp _ => fp = [] ∧ φ, fun h _ => h, fun h _ => h, fun h b hb => by rw [h.1] at hb; cases hb⟩
/-- parts of a part -/
def box {α : Type} (f : α → List Ch) : Ch := ⟨fun ps fp M => ∃ a, SepF ps M (f a) fp, fun ⟨a, h⟩ e => ⟨a, h.mono e⟩, fun ⟨a, h⟩ e => ⟨a, h.cong e⟩, fun ⟨a, h⟩ => h.some⟩
section
variable {ps qs : Pins} {M M' : Sto} {cs ds : List Ch} {c d : Ch} {a p : Addr} {n n' : Nd} {i : Nat}
theorem Sep.get (h : Sep ps cs M) (i : Nat) (hi : cs[i]? = some (cell a n)) : M a = some n := by
  obtain ⟨_, _, ⟨f, g, rfl, h1, _⟩, _⟩ := (h.at i hi).ex
  exact h1.2
theorem Sep.put0 (h : Sep ps (cell a n :: cs) M) (n' : Nd) : Sep ps (cell a n' :: cs) (updM M a n') :=
  h.step (es := [cell a n']) fun f hf _ _ => ⟨[a], ⟨[a], [], rfl, ⟨rfl, updM_same⟩, rfl⟩, List.nodup_cons.mpr ⟨List.not_mem_nil, List.nodup_nil⟩, fun b hb => .inl (by rw [hf.1]; exact hb), fun b hb _ => updM_ne fun z => hb (by rw [hf.1, z]; exact List.mem_singleton.mpr rfl)⟩
theorem Sep.put (h : Sep ps cs M) (i : Nat) (hi : cs[i]? = some (cell a n)) (n' : Nd) : Sep ps (cs.set i (cell a n')) (updM M a n') := ((h.at i hi).put0 n').back i hi
theorem Sep.new (h : Sep ps cs M) (hp : M p = none) (n : Nd) : Sep ps (cell p n :: cs) (updM M p n) := by
  obtain ⟨fp, hn, hs, hq⟩ := h.ex
  have hm : ∀ b, M b ≠ none → updM M p n b = M b := fun b hb => updM_ne fun z => hb (by rw [z]; exact hp)
  refine ⟨p :: fp, List.nodup_cons.mpr ⟨fun q => hs.some p q hp, hn⟩, ⟨[p], fp, rfl, ⟨rfl, updM_same⟩, hs.cong fun b hb => hm b (hs.some b hb)⟩, fun x hx => ?_⟩
  obtain ⟨h1, h2⟩ := hq x hx
  have h3 : M x.1 ≠ none := by rw [h1]; exact fun z => nomatch z
  refine ⟨by rw [hm _ h3, h1], fun q => ?_⟩
  rcases List.mem_cons.mp q with z | z
  · exact h3 (by rw [z]; exact hp)
  · exact h2 z
/-- a cell that never changes again -/
theorem Sep.pin (h : Sep ps (cell a n :: cs) M) : Sep ((a, n) :: ps) cs M := by
  obtain ⟨_, hn, ⟨f, g, rfl, ⟨rfl, h1⟩, h2⟩, hp⟩ := h.ex
  obtain ⟨k1, k2⟩ := List.nodup_cons.mp hn
  refine ⟨g, k2, h2.mono fun x hx => List.mem_cons_of_mem _ hx, fun x hx => ?_⟩
  rcases List.mem_cons.mp hx with z | z
  · rw [z]
    exact ⟨h1, k1⟩
  · exact ⟨(hp x z).1, fun q => (hp x z).2 (List.mem_cons_of_mem _ q)⟩
theorem Sep.less (h : Sep ps (cell a n :: cs) M) : Sep ps cs (lessM M a) :=
  h.step (es := []) fun f hf _ _ => ⟨[], rfl, List.nodup_nil, fun b hb => absurd hb List.not_mem_nil, fun b hb _ => lessM_ne fun z => hb (by rw [hf.1, z]; exact List.mem_singleton.mpr rfl)⟩
theorem Sep.so (h : Sep ps (so φ :: cs) M) : φ ∧ Sep ps cs M := by
  obtain ⟨_, hn, ⟨f, g, rfl, ⟨rfl, h1⟩, h2⟩, hp⟩ := h.ex
  exact ⟨h1, ⟨g, hn, h2, hp⟩⟩
theorem Sep.mkSo (h : Sep ps cs M) (k : φ) : Sep ps (Wp.so φ :: cs) M := by
  obtain ⟨fp, hn, h2, hp⟩ := h.ex
  exact ⟨fp, hn, ⟨[], fp, rfl, ⟨rfl, k⟩, h2⟩, hp⟩
theorem Sep.pinAt (h : Sep ps (pinC a n :: cs) M) : (a, n) ∈ ps ∧ Sep ps cs M := by
  obtain ⟨_, hn, ⟨f, g, rfl, ⟨rfl, h1⟩, h2⟩, hp⟩ := h.ex
  exact ⟨h1, ⟨g, hn, h2, hp⟩⟩
theorem Sep.mkPin (h : Sep ps cs M) (k : (a, n) ∈ ps) : Sep ps (pinC a n :: cs) M := by
  obtain ⟨fp, hn, h2, hp⟩ := h.ex
  exact ⟨fp, hn, ⟨[], fp, rfl, ⟨rfl, k⟩, h2⟩, hp⟩
theorem Sep.open {α : Type} {f : α → List Ch} (h : Sep ps (box f :: cs) M) : ∃ a, Sep ps (f a ++ cs) M := by
  obtain ⟨_, hn, ⟨f1, g, rfl, ⟨a, h1⟩, h2⟩, hp⟩ := h.ex
  exact ⟨a, ⟨f1 ++ g, hn, h1.app h2, hp⟩⟩
theorem Sep.close {α : Type} {f : α → List Ch} (a : α) (h : Sep ps (f a ++ cs) M) : Sep ps (box f :: cs) M := by
  obtain ⟨_, hn, hs, hp⟩ := h.ex
  obtain ⟨f1, g, rfl, h1, h2⟩ := SepF.split hs
  exact ⟨f1 ++ g, hn, ⟨f1, g, rfl, ⟨a, h1⟩, h2⟩, hp⟩
/-! many cells -/
theorem fam_get {as : List Addr} {ns : List Nd} (h : as.map M = ns.map some) {i : Nat} {n : Nd} (hi : ns[i]? = some n) : ∃ a, as[i]? = some a ∧ M a = some n := by
  have e : (as.map M)[i]? = (ns.map some)[i]? := by rw [h]
  rw [List.getElem?_map, List.getElem?_map, hi] at e
  cases z : as[i]? with
  | none => rw [z] at e; cases e
  | some a =>
    rw [z] at e
    exact ⟨a, rfl, Option.some.inj e⟩
theorem Sep.famAll {as : List Addr} {ns : List Nd} (h : Sep ps (fam as ns :: cs) M) : as.map M = ns.map some := by
  obtain ⟨_, _, ⟨f, g, rfl, h1, _⟩, _⟩ := h.ex
  exact h1.2
theorem Sep.famLen {as : List Addr} {ns : List Nd} (h : Sep ps (fam as ns :: cs) M) : as.length = ns.length := by
  have := congrArg List.length h.famAll
  rw [List.length_map, List.length_map] at this
  exact this
theorem Sep.famGet {as : List Addr} {ns : List Nd} (h : Sep ps (fam as ns :: cs) M) {i : Nat} {a : Addr} {n : Nd} (ha : as[i]? = some a) (hi : ns[i]? = some n) : M a = some n := by
  obtain ⟨b, h1, h2⟩ := fam_get h.famAll hi
  rw [ha] at h1
  cases h1
  exact h2
theorem map_upd : ∀ {as : List Addr} {i : Nat} {a : Addr} {n : Nd}, as.Nodup → as[i]? = some a → as.map (updM M a n) = (as.map M).set i (some n)
  | [], i, a, n, _, h => by simp at h
  | b :: as, 0, a, n, hn, h => by
    have e : b = a := by simpa using h
    subst e
    rw [List.map_cons, List.map_cons, updM_same]
    show some n :: as.map _ = some n :: as.map M
    congr 1
    exact List.map_congr_left fun c hc => updM_ne fun z => (List.nodup_cons.mp hn).1 (z ▸ hc)
  | b :: as, i + 1, a, n, hn, h => by
    have h' : as[i]? = some a := by simpa using h
    have hm : a ∈ as := List.mem_of_getElem? h'
    rw [List.map_cons, List.map_cons, updM_ne (fun z => (List.nodup_cons.mp hn).1 (by rw [z]; exact hm)), map_upd (List.nodup_cons.mp hn).2 h']
    rfl
theorem Sep.famPut {as : List Addr} {ns : List Nd} (h : Sep ps (fam as ns :: cs) M) {i : Nat} {a : Addr} (ha : as[i]? = some a) (n : Nd) : Sep ps (fam as (ns.set i n) :: cs) (updM M a n) :=
  h.step (es := [fam as (ns.set i n)]) fun f hf hn _ => ⟨as, ⟨as, [], by rw [List.append_nil], ⟨rfl, by
    have hn' : as.Nodup := hf.1 ▸ hn
    rw [map_upd hn' ha, hf.2, List.map_set]⟩, rfl⟩, hf.1 ▸ hn, fun b hb => .inl (by rw [hf.1]; exact hb), fun b hb _ => updM_ne fun z => hb (by rw [hf.1, z]; exact List.mem_of_getElem? ha)⟩
theorem Sep.famNil (h : Sep ps cs M) : Sep ps (fam [] [] :: cs) M := by
  obtain ⟨fp, hn, h2, hp⟩ := h.ex
  exact ⟨fp, hn, ⟨[], fp, rfl, ⟨rfl, rfl⟩, h2⟩, hp⟩
/-- a cell joins -/
theorem Sep.famSnoc {as : List Addr} {ns : List Nd} (h : Sep ps (cell a n :: fam as ns :: cs) M) : Sep ps (fam (as ++ [a]) (ns ++ [n]) :: cs) M := by
  obtain ⟨_, hn, ⟨f, _, rfl, ⟨rfl, h1⟩, f2, g, rfl, ⟨rfl, h2⟩, h3⟩, hp⟩ := h.ex
  have e : ([a] ++ (f2 ++ g)).Perm ((f2 ++ [a]) ++ g) := by
    rw [← List.append_assoc]
    exact List.perm_append_comm.append_right g
  exact ⟨(f2 ++ [a]) ++ g, e.nodup_iff.mp hn, ⟨f2 ++ [a], g, rfl, ⟨rfl, by rw [List.map_append, List.map_append, h2, List.map_singleton, List.map_singleton, h1]⟩, h3⟩, fun x hx => ⟨(hp x hx).1, fun q => (hp x hx).2 (e.mem_iff.mpr q)⟩⟩
end
/-! parts in another order -/
def pk : List Nat → List (Option Ch) → List Ch
  | [], l => l.filterMap id
  | i :: is, l => match l[i]? with
    | some (some c) => c :: pk is (l.set i none)
    | _ => pk is l
theorem perm_none : ∀ {l : List (Option Ch)} {i : Nat} {c : Ch}, l[i]? = some (some c) → (l.filterMap id).Perm (c :: (l.set i none).filterMap id)
  | [], i, c, h => by simp at h
  | o :: l, 0, c, h => by
    have e : o = some c := by simpa using h
    subst e
    exact List.Perm.refl _
  | o :: l, i + 1, c, h => by
    have h' : l[i]? = some (some c) := by simpa using h
    have ih := perm_none h'
    cases o with
    | none => exact ih
    | some d => exact (ih.cons d).trans (List.Perm.swap c d _)
theorem perm_pk : ∀ (ix : List Nat) (l : List (Option Ch)), (l.filterMap id).Perm (pk ix l)
  | [], l => List.Perm.refl _
  | i :: is, l => by
    unfold pk
    split
    · rename_i c h
      exact (perm_none h).trans ((perm_pk is _).cons c)
    · exact perm_pk is l
theorem Sep.arr {ps : Pins} {cs : List Ch} {M : Sto} (h : Sep ps cs M) (k : Nat) (ix : List Nat) : Sep ps (pk ix ((cs.take k).map some) ++ cs.drop k) M := by
  refine h.perm ?_
  have e : cs = ((cs.take k).map some).filterMap id ++ cs.drop k := by
    rw [List.filterMap_map]
    show cs = (cs.take k).filterMap (id ∘ some) ++ _
    rw [show (id ∘ some : Ch → Option Ch) = some from rfl, List.filterMap_some, List.take_append_drop]
  conv => lhs; rw [e]
  exact (perm_pk ix _).append_right _
theorem Sep.swap {ps : Pins} {cs : List Ch} {c d : Ch} {M : Sto} (h : Sep ps (c :: d :: cs) M) : Sep ps (d :: c :: cs) M := h.perm (List.Perm.swap d c cs)
theorem Sep.tail {ps : Pins} {cs : List Ch} {c : Ch} {M : Sto} (h : Sep ps (c :: cs) M) : Sep ps cs M := h.drop
/-- more may be pinned -/
def SepX (ps : Pins) (cs : List Ch) (M : Sto) : Prop := ∃ qs, PLe ps qs ∧ Sep qs cs M
theorem Sep.x {ps : Pins} {cs : List Ch} {M : Sto} (h : Sep ps cs M) : SepX ps cs M := ⟨ps, PLe.refl ps, h⟩
/-- what is looked up at a cell, as a rule that computes -/
def dfN (C : Addr) (k : List (Str × D) → Prop) : Option Nd → Prop
  | some (.ins C' fs) => C' = C ∧ k fs
  | _ => False
end Wp

set_option Elab.async false
set_option linter.all false
set_option maxRecDepth 100000
set_option maxHeartbeats 4000000
/-! list(d.values()) -/
namespace Cy
open PySem PySem.Spec PyProof.Rows PySem.W L2 Evl
def tListVals (td : TE) : TE := fun σ H Q => td σ H fun x H1 => ∃ a kvs, x = V.ref a ∧ H1 a = some (.dK kvs) ∧ ∀ p, H1 p = none → Q (.ref p) (upd H1 p (.lst (kvs.map fun q => q.2)))
theorem kv_snd {κ : Type} {kvs : List (κ × V)} {vs : List (κ × Value)} (r : KV kvs vs) : Vals (kvs.map fun q => q.2) (vs.map fun q => q.2) := by
  unfold KV at r
  induction r with
  | nil => exact .nil
  | cons h _ ih => exact .cons h.2 ih
theorem pe_listVals {X : Cx} {o : Expr} {td : TE} {p apos mpos pos : Pos} (hc : X.calm = true) (hg : Gl X "list") (hm : X.mg "list" = none) (hd : PE X o td) (h1 : attributeBase o "values" X.env (eval o X.env) = eval o X.env := by rfl) (h2 : (apos.endLine == mpos.line) = true := by rfl)
    (h3 : starEach [Expr.Call (.Attribute o "values" apos) [] [] mpos] X.env = [(false, eval (Expr.Call (.Attribute o "values" apos) [] [] mpos) X.env)] := by rfl) : PE X (.Call (.Name "list" p) [.Call (.Attribute o "values" apos) [] [] mpos] [] pos) (tListVals td) := ⟨fun pins s σ H Q I z => by
  refine wpAny_Call_Name_kw (ld_blt I hg hm (u := .type "list") (by rfl) ?_)
  rw [h3]
  refine PySem.callWith_type1 (wpAny_Call_method0_late h1 h2 (thn (hd.run pins s σ H _ I z) ?_))
  rintro v s1 ⟨_, H1, I1, r1, a, kvs, rfl, ha, q⟩
  obtain rfl : v = Value.ref a := r1
  obtain ⟨hz, hsys, vs, rel, dof⟩ := dk_of I1.hok ha
  obtain ⟨ep, dat⟩ := dof.dictAt
  obtain ⟨ob, es, ho, ex, _⟩ := id dat
  have ho0 := ho
  refine ⟨"dict", "dict.values", PySem.F.plainAttrs_dict, PySem.F.slot_dict_values, PySem.F.type_dict_values, ⟨ob, ho, ex.1⟩, fun b e => (by cases e; exact ⟨ob, ho0, ex.2.1⟩), Calls.callWith_builtin rfl (PySem.evalArgs_none (call_meetsIn PySem.F.slot_dict_values ⟨ob, ho, ex.1⟩ PySem.F.entry_dict_values (PySem.F.args_dict_values_1 _) (meets_dict_values (mixKind X.prog X.w) a hsys) ⟨⟨vs, dof⟩, ?_⟩))⟩
  have up : ∀ b u, s1.heap.get? b = some u → (s1.heap.push { cls := .type "dict_values", data := .fields #[.ref a] }).get? b = some u := fun b u e => Heap.get?_push_of_some _ e
  have hl := rel.length
  refine PySem.W.kdl_call (PySem.W.kdl_values (knd := mixKind X.prog X.w) (kvs := vs) (ep := ep) (r := s1.heap.objs.size) (d := a)) (I.ok.hd hc) ⟨⟨_, Heap.get?_push_size _ rfl, rfl, rfl⟩, dat.keep up⟩ (by omega) fun h' tk acc c hk hat hit => ?_
  have hs : (s1.heap.push { cls := .type "dict_values", data := .fields #[.ref a] }).objs.size = s1.heap.objs.size + 1 := Heap.size_push _ _
  have hv : acc.toList = vs.map fun q => q.2 := PySem.W.kdl_vals_eq acc.toList (by rw [Array.length_toList]; exact hit.1) fun j v e => hit.2 j v (by rw [← Array.getElem?_toList]; exact e)
  have hfresh : s1.heap.objs.size ≤ (s1.heap.push { cls := .type "dict_values", data := .fields #[.ref a] }).objs.size := by omega
  refine ⟨.ref _, _, I1.laid (t' := tk) (fun b u e => hk b u (up b u e)) hfresh (show ObjOk X.prog X.w _ h' _ (.lst (kvs.map fun q => q.2)) from ⟨by rw [List.length_map]; exact hz, acc.toList, c, by rw [hv]; exact kv_snd rel, by rw [Array.toArray_toList]; exact hat⟩), rfl, q _ (I1.hok.fresh hfresh)⟩⟩
end Cy

set_option Elab.async false
set_option linter.all false
set_option maxRecDepth 100000
set_option maxHeartbeats 4000000
namespace Wp
open PySem PySem.Spec PyProof.Rows L2 Evl Cy
/-! a question of a text -/
def rTx (f : Str → Bool) : V → List V → Hp → VK → Prop := fun x xs H Q => ∃ a, x = .str a ∧ xs = [] ∧ True ∧ Q (.bl (f a)) H
def txK (f : Str → Bool) (P : D → Sto → Prop) : D → Sto → Prop
  | .str z, M => P (.bl (f z)) M
  | _, _ => False
def wTx (f : Str → Bool) (a : WE) : WE := fun M G P R => a M G (txK f P) R
/-- list(d.values()) -/
def dvF (P : D → Sto → Prop) (M : Sto) : Option Nd → Prop
  | some (.dic es) => P (.lst (es.map fun q => q.2)) M
  | _ => False
def dvK (P : D → Sto → Prop) : D → Sto → Prop
  | .ptr p, M => dvF P M (M p)
  | _, _ => False
def wLv (a : WE) : WE := fun M G P R => a M G (dvK P) R
def iValsF (k : List D → (Sto → Prop) → Sto → Prop) (M : Sto) (p : Addr) : Option Nd → Prop
  | some (.dicL od kvs es) => k (es.map fun q => q.2) (isAt p (.dicL od kvs es)) M
  | _ => False
def iValsK (k : List D → (Sto → Prop) → Sto → Prop) : D → Sto → Prop
  | .ptr p, M => iValsF k M p (M p)
  | _, _ => False
def wIVals (a : WE) : WI := fun M G k R => a M G (iValsK k) R
section
variable {K : PySem.W.Frag} {M : Sto} {G : List Sl} {P : D → Sto → Prop} {R : Addr → Sto → Prop}
def bTx (f : Str → Bool) (a : BE K) : BE K := ⟨fun X => tM0 (rTx f) (a.t X), wTx f a.w, ⟨fun {M G P R} k {H0 F0 F H σ} E X Q q qx => a.ok.run k E X _ (fun d M1 k1 v F1 H1 E1 f1 r1 => by
  cases d with
  | str z =>
    cases r1
    exact ⟨⟨z, rfl⟩, z, rfl, rfl, trivial, q _ M1 k1 _ F1 H1 E1 f1 (.bl _)⟩
  | _ => exact k1.elim) qx⟩⟩
theorem v_tx {f : Str → Bool} {a : BE K} : (bTx f a).w M G P R = a.w M G (txK f P) R := rfl
theorem v_txK {f : Str → Bool} {z : Str} : txK f P (.str z) M = P (.bl (f z)) M := rfl
def bLv (a : BE K) : BE K := ⟨fun X => tListVals (a.t X), wLv a.w, ⟨fun {M G P R} k {H0 F0 F H σ} E X Q q qx => a.ok.run k E X _ (fun d M1 k1 v F1 H1 E1 f1 r1 => by
  cases d with
  | ptr p =>
    cases r1
    have k1' : dvF P M1 (M1 p) := k1
    cases z : M1 p with
    | none => rw [z] at k1'; exact k1'.elim
    | some n =>
      rw [z] at k1'
      cases n with
      | dic es =>
        obtain ⟨kvs, h1, h2, h3⟩ := cell_dic E1 z
        refine ⟨p, kvs, rfl, h1, fun y hy => ?_⟩
        obtain ⟨E2, e2⟩ := frozen E1 hy (.lst (kvs.map fun q => q.2))
        exact q _ M1 k1' _ _ _ E2 (f1.trans e2) (.lst upd_same (h3.mono e2))
      | _ => exact k1'.elim
  | _ => exact k1.elim) qx⟩⟩
theorem v_lv {a : BE K} : (bLv a).w M G P R = a.w M G (dvK P) R := rfl
theorem v_dvK {p : Addr} : dvK P (.ptr p) M = dvF P M (M p) := rfl
theorem v_dvF {es : List (Key × D)} : dvF P M (some (.dic es)) = P (.lst (es.map fun q => q.2)) M := rfl
def biVals (a : BE K) : BI K := ⟨fun X => iVals (a.t X), wIVals a.w, fun {M G k R} z {H0 F0 F H σ} E X Q q qx => a.ok.run z E X _ (fun d M1 k1 v F1 H1 E1 f1 r1 => by
  cases d with
  | ptr p =>
    cases r1
    have k1' : iValsF k M1 p (M1 p) := k1
    cases z : M1 p with
    | none => rw [z] at k1'; exact k1'.elim
    | some n =>
      rw [z] at k1'
      cases n with
      | dicL od kvs es =>
        obtain ⟨h1, h2, h3⟩ := lock_at (H0 := H0) (F0 := F0) E1.st z
        have hl : kvs.length = es.length := by have := congrArg List.length h2; rw [List.length_map, List.length_map] at this; exact this
        refine ⟨p, od, kvs, rfl, h1, q _ _ M1 k1' _ F1 H1 E1 f1 ⟨fun F' M' H' e1 c e2 g => ?_, fun F' M' H' i x H2 e1 c e2 g hi y => ?_⟩⟩
        · obtain ⟨j1, j2, j3⟩ := lock_at (H0 := H0) (F0 := F0) c g
          rw [List.length_map, ← hl]
          exact ⟨fun i hi => ⟨j1, hi⟩, j1, Nat.le_refl _⟩
        · obtain ⟨j1, j2, j3⟩ := lock_at (H0 := H0) (F0 := F0) c g
          obtain ⟨rfl, k, y1⟩ := y
          rw [List.length_map] at hi
          obtain ⟨v', y4, y5⟩ := j3.get (i := i) (d := es[i].2) (by rw [List.getElem?_map, List.getElem?_eq_getElem hi]; rfl)
          rw [List.getElem?_map, y1] at y4
          cases y4
          exact ⟨F', _, Ex.refl _, Ex.refl _, e2, Nw.refl _ _, by rw [List.getElem?_map, List.getElem?_eq_getElem hi]; rfl, y5⟩
      | _ => exact k1'.elim
  | _ => exact k1.elim) qx⟩
theorem v_iVals {a : BE K} {k : List D → (Sto → Prop) → Sto → Prop} : (biVals a).w M G k R = a.w M G (iValsK k) R := rfl
theorem v_iValsK {k : List D → (Sto → Prop) → Sto → Prop} {p : Addr} : iValsK k (.ptr p) M = iValsF k M p (M p) := rfl
theorem v_iValsF {k : List D → (Sto → Prop) → Sto → Prop} {p : Addr} {od : Obj} {kvs : List (Key × V)} {es : List (Key × D)} : iValsF k M p (some (.dicL od kvs es)) = k (es.map fun q => q.2) (isAt p (.dicL od kvs es)) M := rfl
end
end Wp

set_option Elab.async false
set_option linter.all false
set_option maxRecDepth 100000
set_option maxHeartbeats 4000000
/-! xs.count(y), xs.index(y), isinstance with an own class, great factors -/
namespace Cy
open PySem PySem.Spec PyProof.Rows L2 Evl
def rCountF (K : PySem.W.Frag) : V → List V → Hp → VK → Prop := fun x xs H Q => ∃ (a : Addr) (ys : List V) (y : V), x = V.ref a ∧ xs = [y] ∧ SqL K H a ys ∧ flatV y = true ∧ ys.all flatV = true ∧ Q (.int ((ys.countP fun z => eqV z y : Nat) : Int)) H
theorem count_flat {y : V} : ∀ {ys : List V} {us : List Value}, Vals ys us → ys.all flatV = true → us.countP (eqU y) = ys.countP fun z => eqV z y
  | _, _, .nil, _ => rfl
  | _, _, .cons r t, f => by
    rw [List.all_cons, Bool.and_eq_true] at f
    rw [List.countP_cons, List.countP_cons, count_flat t f.2, eqU_of r f.1]
theorem mt_countF {X : Cx} : MtR X "list.count" (rCountF X.K) := fun pins s σ H x xs v us Q I rx rxs h => by
  obtain ⟨a, ys, y, rfl, rfl, hs, fy, fys, q⟩ := h
  cases rx
  obtain ⟨u, rfl, ru⟩ := rxs.one
  obtain ⟨its, rv, ⟨⟨cls, dd, data, sl⟩, n, ho, hc, hdn, hd⟩, hlen⟩ := I.list hs
  cases hc
  cases hd
  refine call_meets PySem.F.slot_list_count ⟨_, ho, rfl⟩ PySem.F.entry_list_count (PySem.F.args_list_count_2 _ _) (SeqAt.list_countAt a its.toArray n dd sl u (eqU y)) ⟨ho, fun w hw => mem_eqAt ru fy rv fys w (by simpa using hw), ?_⟩
  refine ⟨.int ((ys.countP fun z => eqV z y : Nat) : Int), H, I.tok _, ⟨s.toks, ?_⟩, q⟩
  show Value.int ((its.countP (eqU y) : Nat) : Int) s.toks = _
  rw [count_flat rv fys]
def gMulB : R2 := rI IntMulOk fun i j => .int (i * j)
theorem op_gMulB {X : Cx} : OpR X (binaryOp .Mult) gMulB := opI fun _ _ _ _ _ _ _ hc q => mul_int q hc
theorem bits_log (x : Int) : Builtin.Int.intBits x ≤ x.natAbs.log2 + 1 := by
  unfold Builtin.Int.intBits
  split <;> omega
theorem mul_ok {i j : Int} (h : Builtin.Int.intBits i + Builtin.Int.intBits j ≤ 134217728) : IntMulOk i j := by
  have e : bitsLine = 134217728 := by decide
  unfold IntMulOk
  intro z
  rw [Bool.and_eq_true] at z
  have z3 := z.2
  unfold Builtin.Int.intTooBig at z3
  have z4 := of_decide_eq_true z3
  rw [e] at z4
  omega
/-! text * number -/
def rMulT : R2 := fun x y H Q => ∃ z k, x = .str z ∧ y = .int k ∧ (0 ≤ k ∧ k ≤ 1000 ∧ z.length ≤ 1000) ∧ Q (.str (Txt.mul z k)) H
theorem op_mulT {X : Cx} : OpR X (binaryOp .Mult) rMulT := by
  intro pins s σ H x y v u Q I rx ry h
  obtain ⟨z, k, rfl, rfl, ⟨h0, h1, h2⟩, q⟩ := h
  obtain ⟨t, rfl⟩ := rx
  obtain ⟨t', rfl⟩ := ry
  refine SB.mul ?_ fun t2 tk => ⟨.str (Txt.mul z k), H, I.tok _, ⟨_, rfl⟩, q⟩
  refine ⟨?_, fun h3 h4 => ?_, fun h3 h4 => ?_⟩
  · rw [Bool.or_eq_false_iff, decide_eq_false_iff_not, decide_eq_false_iff_not]
    omega
  · intro h5
    have h6 : (z.length : Int) ≤ (2 ^ 63 - 1) / k := (Int.le_ediv_iff_mul_le (by omega)).mpr (Int.le_trans (Int.mul_le_mul (show (z.length : Int) ≤ 1000 by omega) h1 h0 (by decide)) (by decide))
    omega
  · have h5 : z.length * k.toNat ≤ 1000 * 1000 := Nat.mul_le_mul h2 (by omega)
    have h6 : sizeLine = 16777216 := sizeLine_eq
    exact decide_eq_false (by show ¬ (z.length * k.toNat > sizeLine); omega)
/-- the law's script, its numbers within their bits -/
theorem walkGB {l : PySem.W.OpenLaw} {n k : Nat} {q : Program} {loose : List Str} {XP : (Str → Option Value) → Heap → Prop} {YP : World → Heap → Prop} {d : DefRec} {K : Params → PySem.W.Frag} {CX : World → CXT} {sp : World → Sp} {x : Str}
    (hn : l.most = some n) (hn2 : n ≤ sizeLine) (hdf : d.params.defaults = []) (hr : Room k callerA) (hq : importsNone q = true) (hY : ∀ (w : World) (h : Heap), YP w h → (K w.params).In h)
    (F : ∀ (w : World) (mg : Str → Option Value) (fa : Addr) (h : Heap), (K w.params).In h → h.Ns mainGlobals mg → mg d.name = some (.ref fa) →
      ∃ fd : FuncData, (∀ (s : Shared) (u : Value), BindsTo s fd ⟨[u], []⟩ [(x, u)]) ∧ ∀ base : Heap, (K w.params).In base → base.Ns mainGlobals mg → (∃ o, base.get? sysModules = some o) → FnG l.prog w (K w.params) mg base (CX w) k fa fd [x] (sp w))
    (hsp : ∀ (w : World) (H : Hp) (a : Addr) (ns : List Int), ns.length ≤ n → (∀ z ∈ ns, Builtin.Int.intBits z ≤ 1048576) → SqL (K w.params) H a (ns.map V.int) → sp w [.ref a] H (fun v _ => v = .bl true) fun _ _ _ => False)
    (hCX : ∀ (w : World) (H : Hp) (s : Shared) (e : Value) (s' : Shared), CX w [] H s (fun _ _ _ => False) e s' → False) : PySem.W.WalkO q loose XP YP l.row.toRowW d [] (fun f vs => PySem.call f vs) :=
  Att.attach_callB hn hdf fun w s₀ s₁ mg mb fa o pm cd doc a vs ns G Y ho hd hcd hmg hobj hints hlen hbits hg => by
    obtain ⟨fd, hb, hF⟩ := F w mg fa _ (hY w _ Y) G.T.g hmg
    exact law_callG (hY w _ Y) G.T.g G.T.b G.T.builtins G.T.nolimit hg hobj hints (Nat.le_trans hlen hn2) hr (let ⟨mm, h1, _⟩ := (G.T.seer hq).mods; ⟨mm, h1⟩) hF hb (fun H hS => hsp w H a ns hlen hbits hS) fun H e s' => hCX w H s₁ e s'
end Cy
namespace Wp
open PySem PySem.Spec PyProof.Rows L2 Evl Cy
def cntF (P : D → Sto → Prop) (M : Sto) (d : D) : Option (List D) → Prop
  | some l => (flatD d = true ∧ l.all flatD = true) ∧ P (.int ((l.countP fun z => eqF z d : Nat) : Int)) M
  | none => False
def cntK2 (P : D → Sto → Prop) (o : D) : D → Sto → Prop := fun d M => cntF P M d (dl M o)
def cntK1 (b : WE) (G : List Sl) (P : D → Sto → Prop) (R : Addr → Sto → Prop) : D → Sto → Prop := fun o M => (∃ l, dl M o = some l) ∧ b M G (cntK2 P o) R
def wCnt (a b : WE) : WE := fun M G P R => a M G (cntK1 b G P R) R
def idxF (P : D → Sto → Prop) (M : Sto) (d : D) : Option (List D) → Prop
  | some l => (flatD d = true ∧ l.all flatD = true) ∧ ∃ j, l.findIdx? (fun z => eqF z d) = some j ∧ P (.int (j : Int)) M
  | none => False
def idxK2 (P : D → Sto → Prop) (o : D) : D → Sto → Prop := fun d M => idxF P M d (dl M o)
def idxK1 (b : WE) (G : List Sl) (P : D → Sto → Prop) (R : Addr → Sto → Prop) : D → Sto → Prop := fun o M => (∃ l, dl M o = some l) ∧ b M G (idxK2 P o) R
def wIdx (a b : WE) : WE := fun M G P R => a M G (idxK1 b G P R) R
def isoK (C : Addr) (P : D → Sto → Prop) : D → Sto → Prop := fun d M => df M C d fun _ => P (.bl true) M
def wIso (C : Addr) (a : WE) : WE := fun M G P R => a M G (isoK C P) R
def fMulT : FO
  | .str z, .int k, f => (0 ≤ k ∧ k ≤ 1000 ∧ z.length ≤ 1000) ∧ f (.str (Txt.mul z k))
  | _, _, _ => False
def fMulB : FO
  | .int i, .int j, k => IntMulOk i j ∧ k (.int (i * j))
  | _, _, _ => False
section
variable {K : PySem.W.Frag} {M : Sto} {G : List Sl} {P : D → Sto → Prop} {R : Addr → Sto → Prop}
theorem cnt_rp {F : Hp} {w : V} {e : D} (s : Rp K F w e) (k : flatD e = true) : ∀ {vs : List V} {ds : List D}, RpA K F vs ds → ds.all flatD = true → vs.countP (fun y => eqV y w) = ds.countP fun y => eqF y e
  | _, _, .nil, _ => rfl
  | _, _, .cons r t, h => by
    rw [List.all_cons, Bool.and_eq_true] at h
    rw [List.countP_cons, List.countP_cons, cnt_rp s k t h.2, eqF_eq r s h.1 k]
def bCnt (a b : BE K) : BE K := ⟨fun X => tBM K "list" (rCountF K) (a.t X) (tCons (b.t X) tNil), wCnt a.w b.w, ⟨fun {M G P R} k {H0 F0 F H σ} E X Q q qx => a.ok.run k E X _ (fun o M1 k1 v F1 H1 E1 f1 r1 => by
  obtain ⟨⟨l0, h0⟩, k1⟩ := k1
  obtain ⟨a0, xs0, rfl, g1, g2⟩ := dl_at E1 r1 h0
  refine ⟨Or.inl ⟨rfl, _, sq_of g1⟩, b.ok.run k1 E1 X _ (fun d M2 k2 w F2 H2 E2 f2 r2 => ?_) fun C M' z F' H' E' f' => qx C M' z F' H' E' (f1.trans f')⟩
  have k2' : cntF P M2 d (dl M2 o) := k2
  cases z : dl M2 o with
  | none => rw [z] at k2'; exact k2'.elim
  | some l =>
    rw [z] at k2'
    obtain ⟨⟨c1, c2⟩, k3⟩ := k2'
    obtain ⟨a1, xs1, e1, g3, g4⟩ := dl_at E2 (r1.mono f2) z
    cases e1
    refine ⟨_, xs1, w, rfl, rfl, sq_of g3, rp_flat r2 c1, rpa_flat g4 c2, ?_⟩
    rw [cnt_rp r2 c1 g4 c2]
    exact q _ M2 k3 _ F2 H2 E2 (f1.trans f2) (.int _)) qx⟩⟩
def bIdx (a b : BE K) : BE K := ⟨fun X => tBM K "list" (rIndex K) (a.t X) (tCons (b.t X) tNil), wIdx a.w b.w, ⟨fun {M G P R} k {H0 F0 F H σ} E X Q q qx => a.ok.run k E X _ (fun o M1 k1 v F1 H1 E1 f1 r1 => by
  obtain ⟨⟨l0, h0⟩, k1⟩ := k1
  obtain ⟨a0, xs0, rfl, g1, g2⟩ := dl_at E1 r1 h0
  refine ⟨Or.inl ⟨rfl, _, sq_of g1⟩, b.ok.run k1 E1 X _ (fun d M2 k2 w F2 H2 E2 f2 r2 => ?_) fun C M' z F' H' E' f' => qx C M' z F' H' E' (f1.trans f')⟩
  have k2' : idxF P M2 d (dl M2 o) := k2
  cases z : dl M2 o with
  | none => rw [z] at k2'; exact k2'.elim
  | some l =>
    rw [z] at k2'
    obtain ⟨⟨c1, c2⟩, j, hj, k3⟩ := k2'
    obtain ⟨a1, xs1, e1, g3, g4⟩ := dl_at E2 (r1.mono f2) z
    cases e1
    obtain ⟨hl, hy, hno⟩ := List.findIdx?_eq_some_iff_getElem.mp hj
    obtain ⟨y, hy1, hy2⟩ := g4.get (List.getElem?_eq_getElem hl)
    have fl := fun (m : Nat) (h : m < l.length) => List.all_eq_true.mp c2 l[m] (List.getElem_mem h)
    refine ⟨_, xs1, w, j, y, rfl, rfl, sq_of g3, rp_flat r2 c1, rpa_flat g4 c2, hy1, by rw [eqF_eq hy2 r2 (fl j hl) c1]; exact hy, fun m y' hm hy' => ?_, q _ M2 k3 _ F2 H2 E2 (f1.trans f2) (.int _)⟩
    have hm2 : m < l.length := by omega
    obtain ⟨y2, hy3, hy4⟩ := g4.get (List.getElem?_eq_getElem hm2)
    rw [hy'] at hy3
    cases hy3
    rw [eqF_eq hy4 r2 (fl m hm2) c1]
    exact Bool.eq_false_iff.mpr (hno m hm)) qx⟩⟩
structure IsoC (K : PySem.W.Frag) (C : Addr) : Prop where
  cl : Cls K C
  ha : PySem.W.findIn K (.ref C) "__class__" = some (some (.builtin "object.__class__"))
  hg : PySem.W.specialIn K (.builtin "object.__class__") "__get__" = some (some (.builtin "getset_descriptor.__get__"))
  ht : PySem.W.takesIn K (.builtin "object.__class__") = some true
  hm : PySem.W.mroIn K C (.type "object") = some true
def bIso {C : Addr} (hC : IsoC K C) (a : BE K) : BE K := ⟨fun X => tCB (rIsi K) (tCons (a.t X) (tCons (tC (.ref C)) tNil)), wIso C a.w, ⟨fun {M G P R} k {H0 F0 F H σ} E X Q q qx => a.ok.run k E X _ (fun d M1 k1 v F1 H1 E1 f1 r1 => by
  obtain ⟨x, dx, gs, fs, rfl, h1, h2, h3, h4⟩ := df_at E1 r1 k1
  exact ⟨_, _, .ref C, .ref C, true, rfl, .own C, .base (.ins h1 hC.cl hC.ha hC.hg hC.ht hC.hm), kit_self, q _ M1 h4 _ F1 H1 E1 f1 (.bl _)⟩) qx⟩⟩
theorem oMulB : SO K gMulB fMulB := ⟨fun {a b k} h => by
  cases a <;> cases b <;> first | exact h.elim | skip
  exact ⟨_, d_iiC (c := fun i j => .int (i * j)) (fun _ _ _ => .int _) h.1, h.2, rfl⟩⟩
theorem oMulT : SO K rMulT fMulT := ⟨fun {a b k} h => by
  cases a <;> cases b <;> first | exact h.elim | skip
  rename_i z i
  exact ⟨_, op2_v fun {F H x y} e r1 r2 => ⟨.str _, .str _, fun Q q => ⟨z, i, rp_str r1, rp_int r2, h.1, q⟩⟩, h.2, rfl⟩⟩
theorem v_fMulT {z : Str} {i : Int} {k : D → Prop} : fMulT (.str z) (.int i) k = ((0 ≤ i ∧ i ≤ 1000 ∧ z.length ≤ 1000) ∧ k (.str (Txt.mul z i))) := rfl
theorem v_cnt {a b : BE K} : (bCnt a b).w M G P R = a.w M G (cntK1 b.w G P R) R := rfl
theorem v_cntK1 {b : WE} {o : D} : cntK1 b G P R o M = ((∃ l, dl M o = some l) ∧ b M G (cntK2 P o) R) := rfl
theorem v_cntK2 {o d : D} : cntK2 P o d M = cntF P M d (dl M o) := rfl
theorem v_cntF {d : D} {l : List D} : cntF P M d (some l) = ((flatD d = true ∧ l.all flatD = true) ∧ P (.int ((l.countP fun z => eqF z d : Nat) : Int)) M) := rfl
theorem v_idx {a b : BE K} : (bIdx a b).w M G P R = a.w M G (idxK1 b.w G P R) R := rfl
theorem v_idxK1 {b : WE} {o : D} : idxK1 b G P R o M = ((∃ l, dl M o = some l) ∧ b M G (idxK2 P o) R) := rfl
theorem v_idxK2 {o d : D} : idxK2 P o d M = idxF P M d (dl M o) := rfl
theorem v_idxF {d : D} {l : List D} : idxF P M d (some l) = ((flatD d = true ∧ l.all flatD = true) ∧ ∃ j, l.findIdx? (fun z => eqF z d) = some j ∧ P (.int (j : Int)) M) := rfl
theorem v_iso {C : Addr} {hC : IsoC K C} {a : BE K} : (bIso hC a).w M G P R = a.w M G (isoK C P) R := rfl
theorem v_isoK {C : Addr} {d : D} : isoK C P d M = df M C d fun _ => P (.bl true) M := rfl
theorem v_fMulB {i j : Int} {k : D → Prop} : fMulB (.int i) (.int j) k = (IntMulOk i j ∧ k (.int (i * j))) := rfl
end
end Wp

set_option Elab.async false
set_option linter.all false
set_option maxRecDepth 100000
set_option maxHeartbeats 4000000
/-! for a, b, c in zip(xs, ys, t): two lists and a tuple -/
namespace Cy
open PySem PySem.Spec PyProof.Rows PySem.W L2 Evl
/-- what is walked: as the three stand at each turn -/
def Itz3 (K : PySem.W.Frag) (a b c : Addr) : It :=
  ⟨fun i H => ∃ (xs ys zs : List V) (x y u : V), (SqL K H a xs ∧ SqL K H b ys ∧ SqT K H c zs) ∧ xs[i]? = some x ∧ ys[i]? = some y ∧ zs[i]? = some u,
    fun i H v H' => ∃ T x y u, v = .ref T ∧ H T = none ∧ H' = upd H T (.tup [x, y, u]) ∧ (∀ xs, SqL K H a xs → xs[i]? = some x) ∧ (∀ ys, SqL K H b ys → ys[i]? = some y) ∧ ∀ zs, SqT K H c zs → zs[i]? = some u,
    fun i H => ∃ xs ys zs : List V, (SqL K H a xs ∧ SqL K H b ys ∧ SqT K H c zs) ∧ (i ≤ xs.length ∧ i ≤ ys.length ∧ i ≤ zs.length) ∧ (i = xs.length ∨ i = ys.length ∨ i = zs.length)⟩
theorem turn_zip3 {P : Program} {w : World} {K : PySem.W.Frag} {elts : List Expr} {kk : Nat} {tpos : Pos} {a b c z TI TO i1 i2 i3 : Addr} (S : ZipSep3 z TI TO i1 i2 i3 [i1, a] [i2, b] [i3, c]) (ha : a ≠ i1) (hb : b ≠ i2) (hc3 : c ≠ i3) :
    Turn P w K (.Tuple elts kk tpos) (Itz3 K a b c) [z, TI, TO, i1, i2, i3] z (fun i h => IsZip h z TI TO .none ∧ IsTupOf3 h TI (.ref i1) (.ref i2) (.ref i3) ∧ (∃ x y u, IsTupOf3 h TO x y u) ∧ h.IsListIter i1 a i ∧ h.IsListIter i2 b i ∧ h.IsTupleIter i3 c i) where
  mem := by simp
  obj := fun i h kst d hd => by
    obtain ⟨cz, cI, ⟨x, y, u, cO⟩, ⟨b1, e1, _, w1⟩, ⟨b2, e2, _, w2⟩, ⟨b3, e3, _, w3⟩⟩ := kst
    have ee : d = z ∨ d = TI ∨ d = TO ∨ d = i1 ∨ d = i2 ∨ d = i3 := by simpa using hd
    rcases ee with qq | qq | qq | qq | qq | qq
    · rw [qq]; exact ⟨_, cz, fun v qq => nomatch qq⟩
    · rw [qq]; exact ⟨_, cI, fun v qq => nomatch qq⟩
    · rw [qq]; exact ⟨_, cO, fun v qq => nomatch qq⟩
    · rw [qq]; exact ⟨b1, e1, fun v qq => by rw [w1] at qq; cases qq⟩
    · rw [qq]; exact ⟨b2, e2, fun v qq => by rw [w2] at qq; cases qq⟩
    · rw [qq]; exact ⟨b3, e3, fun v qq => by rw [w3] at qq; cases qq⟩
  keep := fun i h h' kst k => by
    obtain ⟨cz, cI, ⟨x, y, u, cO⟩, t1, t2, t3⟩ := kst
    exact ⟨k z (by simp) _ cz, k TI (by simp) _ cI, ⟨x, y, u, k TO (by simp) _ cO⟩, t1.at fun o qq => k i1 (by simp) o qq, t2.at fun o qq => k i2 (by simp) o qq, t3.at fun o qq => k i3 (by simp) o qq⟩
  item := by
    intro X eP ew eK hc i pn s σ H E I fr kst hg
    subst eP ew eK
    obtain ⟨cz, cI, ⟨x0, y0, u0, cO⟩, t1, t2, t3⟩ := kst
    obtain ⟨xs, ys, zs, x, y, u, ⟨sx, sy, sz⟩, hx, hy, hu⟩ := hg
    obtain ⟨us1, vv1, p, _⟩ := I.list sx
    obtain ⟨us2, vv2, p2, _⟩ := I.list sy
    obtain ⟨us3, vv3, p3, _⟩ := I.tuple sz
    obtain ⟨v1, hv1, rr1⟩ := vv1.get hx
    obtain ⟨v2, hv2, rr2⟩ := vv2.get hy
    obtain ⟨v3, hv3, rr3⟩ := vv3.get hu
    have zl : z < s.heap.objs.size := Heap.lt_size cz
    have hh : X.A.in1.handled = none := I.ok.hd hc
    have D1 := Draws.list (prog := X.prog) (w := X.w) (A := X.A.in1) hh i1 a ha us1.toArray
    have D2 := Draws.list (prog := X.prog) (w := X.w) (A := X.A.in1) hh i2 b hb us2.toArray
    have D3 := Draws.tuple (prog := X.prog) (w := X.w) (A := X.A.in1) hh i3 c hc3 us3.toArray
    have m1 : us1.toArray[i]? = some v1 := by simpa using hv1
    have m2 : us2.toArray[i]? = some v2 := by simpa using hv2
    have m3 : us3.toArray[i]? = some v3 := by simpa using hv3
    refine wpAny_pyNext_zipD3_item S D1 D2 D3 cz cI cO ⟨t1, p.isList⟩ ⟨t2, p2.isList⟩ ⟨t3, p3⟩ (Array.getElem?_eq_some_iff.mp m1).1 (Array.getElem?_eq_some_iff.mp m2).1 (Array.getElem?_eq_some_iff.mp m3).1 fun x1 x2 x3 h' tk q1 q2 q3 z' TO' s1 s2 s3 hT hsz hk => ?_
    rw [m1] at q1
    rw [m2] at q2
    rw [m3] at q3
    cases q1
    cases q2
    cases q3
    refine ⟨_, rfl, wpAny_letOwnedTupleGo_zip (s := { s with heap := h', toks := tk }) z' fun h'' z'' sb => ?_⟩
    have hT2 : h''.get? s.heap.objs.size = some { cls := .type "tuple", data := .seq #[v1, v2, v3] } := (sb.2 _ (Nat.ne_of_gt zl)).trans hT
    have new : ObjOk X.prog X.w (upd H s.heap.objs.size (.tup [x, y, u])) h'' s.heap.objs.size (.tup [x, y, u]) :=
      ⟨by show 3 ≤ sizeLine; decide, [v1, v2, v3], .cons rr1 (.cons rr2 (.cons rr3 .nil)), ⟨_, hT2, rfl, _, rfl⟩⟩
    have J1 : Inv X pn σ (upd H s.heap.objs.size (.tup [x, y, u])) { s with heap := h'', toks := tk } :=
      I.turnedNew (t' := tk) (ch := [z, TI, TO, i1, i2, i3]) (fun d o hd qq => (sb.2 d (fun q' => hd (by simp [q']))).trans (hk d o (fun q' => hd (by simp [q'])) (fun q' => hd (by simp [q'])) (fun q' => hd (by simp [q'])) (fun q' => hd (by simp [q'])) (fun q' => hd (by simp [q'])) qq)) fr (Nat.le_refl _) new
    have f1 : z ≠ i1 := fun e => S.zf1 (by rw [e]; exact S.mem1)
    have f2 : z ≠ i2 := fun e => S.zf2 (by rw [e]; exact S.mem2)
    have f3 : z ≠ i3 := fun e => S.zf3 (by rw [e]; exact S.mem3)
    refine ⟨.ref s.heap.objs.size, _, J1, rfl, ⟨_, x, y, u, rfl, I.hok.fresh (Nat.le_refl _), rfl, fun l hl => by rw [I.list_inj hl sx]; exact hx, fun l hl => by rw [I.list_inj hl sy]; exact hy, fun l hl => by rw [I.tuple_inj hl sz]; exact hu⟩, ⟨z'', ?_, ⟨v1, v2, v3, ?_⟩, ?_, ?_, ?_⟩, fun d hdm => ?_⟩
    · exact (sb.2 _ S.TIz).trans (hk _ _ S.TIz S.TITO S.TIi1 S.TIi2 S.TIi3 cI)
    · exact (sb.2 _ S.TOz).trans TO'
    · exact s1.1.at fun o qq => (sb.2 _ f1.symm).trans qq
    · exact s2.1.at fun o qq => (sb.2 _ f2.symm).trans qq
    · exact s3.1.at fun o qq => (sb.2 _ f3.symm).trans qq
    · have dl : d < s.heap.objs.size := by
        have ee : d = z ∨ d = TI ∨ d = TO ∨ d = i1 ∨ d = i2 ∨ d = i3 := by simpa using hdm
        rcases ee with qq | qq | qq | qq | qq | qq
        · rw [qq]; exact zl
        · rw [qq]; exact Heap.lt_size cI
        · rw [qq]; exact Heap.lt_size cO
        · rw [qq]; obtain ⟨_, e1, _⟩ := t1; exact Heap.lt_size e1
        · rw [qq]; obtain ⟨_, e2, _⟩ := t2; exact Heap.lt_size e2
        · rw [qq]; obtain ⟨_, e3, _⟩ := t3; exact Heap.lt_size e3
      rw [upd_ne (Nat.ne_of_lt dl)]
      exact (fr d hdm).1
  done := by
    intro X eP ew eK hc i pn s σ H E I fr kst hg
    subst eP ew eK
    obtain ⟨cz, cI, ⟨x0, y0, u0, cO⟩, t1, t2, t3⟩ := kst
    obtain ⟨xs, ys, zs, ⟨sx, sy, sz⟩, ⟨g1, g2, g3⟩, hend⟩ := hg
    obtain ⟨us1, vv1, p, _⟩ := I.list sx
    obtain ⟨us2, vv2, p2, _⟩ := I.list sy
    obtain ⟨us3, vv3, p3, _⟩ := I.tuple sz
    have l1 := vv1.length
    have l2 := vv2.length
    have l3 := vv3.length
    have hh : X.A.in1.handled = none := I.ok.hd hc
    have D1 := Draws.list (prog := X.prog) (w := X.w) (A := X.A.in1) hh i1 a ha us1.toArray
    have D2 := Draws.list (prog := X.prog) (w := X.w) (A := X.A.in1) hh i2 b hb us2.toArray
    have D3 := Draws.tuple (prog := X.prog) (w := X.w) (A := X.A.in1) hh i3 c hc3 us3.toArray
    exact wpAny_pyNext_zipD3_end S D1 D2 D3 cz cI cO ⟨t1, p.isList⟩ ⟨t2, p2.isList⟩ ⟨t3, p3⟩ (by simp; omega) (by simp; omega) (by simp; omega) (by simp; omega) fun h' tk hk => ⟨rfl, I.turnedL (t' := tk) (ch := [z, TI, TO, i1, i2, i3]) (fun d o hd qq =>
      hk d o (fun q' => hd (by simp [q'])) (fun q' => hd (by simp [q'])) (fun q' => hd (by simp [q'])) (fun q' => hd (by simp [q'])) (fun q' => hd (by simp [q'])) qq) fr⟩
  self := fun A i s Q E kst h => wpAny_pyIter_zip kst.1 h
def iZip3 (K : PySem.W.Frag) (ta : TA) : TI := fun σ H R => ta σ H fun vs H1 => ∃ a b c xs ys zs, vs = [.ref a, .ref b, .ref c] ∧ SqL K H1 a xs ∧ SqL K H1 b ys ∧ SqT K H1 c zs ∧ R (Itz3 K a b c) H1
theorem pi_zip3 {X : Cx} {e e2 e3 : Expr} {ta : TA} {p pos tpos : Pos} {elts : List Expr} {kk : Nat} (hg : Gl X "zip") (hm : X.mg "zip" = none) (ha : PA X [e, e2, e3] ta)
    (hs : starEach [e, e2, e3] X.env = (false, eval e X.env) :: starEach [e2, e3] X.env := by rfl) (hpl : (backTo pos (starEach [e2, e3] X.env)).any (·.1) = false := by rfl) :
    PI X (.Tuple elts kk tpos) (.Call (.Name "zip" p) [e, e2, e3] [] pos) (iZip3 X.K ta) := by
  refine ⟨fun pn s σ H R I h => ?_⟩
  refine Call_ (ld_blt I hg hm PyProof.Rows.boot_zip (PyProof.Rows.callWith_type1 (thn (ha.run pos pn s σ H _ I h) fun us s1 ⟨vs, H1, J1, r1, q1⟩ => ?_) hs hpl))
  obtain ⟨a, b, c, xs, ys, zs, ex, sx, sy, sz, qq⟩ := q1
  subst ex
  cases r1 with
  | cons r rr =>
    cases rr with
    | cons r' rr =>
      cases rr with
      | cons r'' rr =>
        cases rr
        cases r
        cases r'
        cases r''
        obtain ⟨us1, vv1, p1, _⟩ := J1.list sx
        obtain ⟨us2, vv2, p2, _⟩ := J1.list sy
        obtain ⟨us3, vv3, p3, _⟩ := J1.tuple sz
        have la1 : a < s1.heap.objs.size := p1.lt
        have lb1 : b < s1.heap.objs.size := p2.lt
        have lc1 : c < s1.heap.objs.size := by
          obtain ⟨o, ho, _⟩ := (show s1.heap.IsTuple c us3.toArray from p3)
          exact Heap.lt_size ho
        refine zip_begins3 (begins_list a us1.toArray) (begins_list b us2.toArray) (begins_tuple c us3.toArray) p1.isList p2.isList (show s1.heap.IsTuple c us3.toArray from p3) fun h' cz cI cO g1 g2 g3 hsz hk => wpAny_pyIter_zip cz ?_
        have J2 : Inv X pn σ H1 { s1 with heap := h' } := J1.kept (t' := s1.toks) hk
        refine ⟨s1.heap.objs.size + 5, [s1.heap.objs.size + 5, s1.heap.objs.size + 3, s1.heap.objs.size + 4, s1.heap.objs.size, s1.heap.objs.size + 1, s1.heap.objs.size + 2], _, _, H1, rfl, J2, turn_zip3 (zip_sep3 (fp1 := [a]) (fp2 := [b]) (fp3 := [c]) (fun x hx => by rw [List.mem_singleton.mp hx]; exact la1) (fun x hx => by rw [List.mem_singleton.mp hx]; exact lb1) (fun x hx => by rw [List.mem_singleton.mp hx]; exact lc1)) (Nat.ne_of_lt la1) (Nat.ne_of_lt (Nat.lt_succ_of_lt lb1)) (Nat.ne_of_lt (Nat.lt_succ_of_lt (Nat.lt_succ_of_lt lc1))), ⟨cz, cI, ⟨_, _, _, cO⟩, ⟨_, g1, rfl, rfl⟩, ⟨_, g2, rfl, rfl⟩, ⟨_, g3, rfl, rfl⟩⟩, fun d hdm => ?_, qq⟩
        have nd : s1.heap.objs.size ≤ d := by
          have ee : d = s1.heap.objs.size + 5 ∨ d = s1.heap.objs.size + 3 ∨ d = s1.heap.objs.size + 4 ∨ d = s1.heap.objs.size ∨ d = s1.heap.objs.size + 1 ∨ d = s1.heap.objs.size + 2 := by simpa using hdm
          rcases ee with rfl | rfl | rfl | rfl | rfl | rfl <;> (show (_ : Nat) ≤ _; omega)
        exact J1.fpOk nd (J1.hok.fresh nd)
end Cy
namespace Wp
open PySem PySem.Spec PyProof.Rows L2 Evl Cy
def zip3D (l m n : List D) : List D := (List.range (min (min l.length m.length) n.length)).map fun i => D.tup [l.getD i .non, m.getD i .non, n.getD i .non]
theorem zip3_len (l m n : List D) : (zip3D l m n).length = min (min l.length m.length) n.length := by
  unfold zip3D
  rw [List.length_map, List.length_range]
theorem zip3_at {l m n : List D} {i : Nat} (hi : i < l.length) (hj : i < m.length) (hk : i < n.length) : (zip3D l m n)[i]? = some (D.tup [l[i], m[i], n[i]]) := by
  unfold zip3D
  rw [List.getElem?_map, List.getElem?_range (by omega)]
  show some (D.tup [l.getD i .non, m.getD i .non, n.getD i .non]) = _
  simp only [List.getD_eq_getElem?_getD, List.getElem?_eq_getElem hi, List.getElem?_eq_getElem hj, List.getElem?_eq_getElem hk, Option.getD_some]
section
variable {K : PySem.W.Frag} {F : Hp}
theorem wk_zip3 {a b c : Addr} {l m n : List D} {gd ge : Sto → Prop} (h : ∀ (F' : Hp) (M' : Sto) (H' : Hp), Ex F F' → Cells K F' M' H' → Ex F' H' → gd M' → ∃ xs, SqL K H' a xs ∧ RpA K F' xs l)
    (k : ∀ (F' : Hp) (M' : Sto) (H' : Hp), Ex F F' → Cells K F' M' H' → Ex F' H' → ge M' → ∃ xs, SqL K H' b xs ∧ RpA K F' xs m) (t : ∀ (F' H' : Hp), Ex F F' → Ex F' H' → ∃ xs, SqT K H' c xs ∧ RpA K F' xs n) : WkM K F (Itz3 K a b c) (zip3D l m n) (fun M => gd M ∧ ge M) := by
  refine ⟨fun F' M' H' e1 cc e2 g => ?_, fun F' M' H' i x H2 e1 cc e2 g hi y => ?_⟩
  · obtain ⟨xs, h1, h2⟩ := h F' M' H' e1 cc e2 g.1
    obtain ⟨ys, k1, k2⟩ := k F' M' H' e1 cc e2 g.2
    obtain ⟨zs, t1, t2⟩ := t F' H' e1 e2
    have n1 := h2.length
    have n2 := k2.length
    have n3 := t2.length
    rw [zip3_len]
    refine ⟨fun i hi => ?_, xs, ys, zs, ⟨h1, k1, t1⟩, ⟨by omega, by omega, by omega⟩, by omega⟩
    exact ⟨xs, ys, zs, _, _, _, ⟨h1, k1, t1⟩, List.getElem?_eq_getElem (by omega), List.getElem?_eq_getElem (by omega), List.getElem?_eq_getElem (by omega)⟩
  · obtain ⟨xs, h1, h2⟩ := h F' M' H' e1 cc e2 g.1
    obtain ⟨ys, k1, k2⟩ := k F' M' H' e1 cc e2 g.2
    obtain ⟨zs, t1, t2⟩ := t F' H' e1 e2
    rw [zip3_len] at hi
    obtain ⟨T, u, w, r, rfl, hT, rfl, y2, y3, y4⟩ := y
    have a1 : i < l.length := by omega
    have a2 : i < m.length := by omega
    have a3 : i < n.length := by omega
    obtain ⟨v, b1, b2⟩ := h2.get (List.getElem?_eq_getElem a1)
    rw [y2 xs h1] at b1
    cases b1
    obtain ⟨v, c1, c2⟩ := k2.get (List.getElem?_eq_getElem a2)
    rw [y3 ys k1] at c1
    cases c1
    obtain ⟨v, d1, d2⟩ := t2.get (List.getElem?_eq_getElem a3)
    rw [y4 zs t1] at d1
    cases d1
    have ef : Ex F' (upd F' T (.tup [u, w, r])) := Ex.new (ex_none e2 hT)
    exact ⟨_, _, ef, Ex.new hT, ex_upd_both e2, nw_upd hT (Nw.refl _ _), zip3_at a1 a2 a3, .tup upd_same (.cons (b2.mono ef) (.cons (c2.mono ef) (.cons (d2.mono ef) .nil)))⟩
end
def zip3T (k : List D → (Sto → Prop) → Sto → Prop) (l m : List D) (gd ge : Sto → Prop) : D → Sto → Prop
  | .tup n, M => k (zip3D l m n) (fun M => gd M ∧ ge M) M
  | _, _ => False
def zip3F2 (k : List D → (Sto → Prop) → Sto → Prop) (l : List D) (gd : Sto → Prop) (t : D) : List D → (Sto → Prop) → Sto → Prop := fun m ge M => zip3T k l m gd ge t M
def zip3F1 (k : List D → (Sto → Prop) → Sto → Prop) (e t : D) : List D → (Sto → Prop) → Sto → Prop := fun l gd M => lqK (zip3F2 k l gd t) M e
def iZip3K (k : List D → (Sto → Prop) → Sto → Prop) : List D → Sto → Prop
  | [d, e, t], M => lqK (zip3F1 k e t) M d
  | _, _ => False
def wIZip3 (a : WA) : WI := fun M G k R => a M G (iZip3K k) R
section
variable {K : PySem.W.Frag} {M : Sto} {G : List Sl} {R : Addr → Sto → Prop}
def biZip3 (a : BA K) : BI K := ⟨fun X => iZip3 K (a.t X), wIZip3 a.w, fun {M G k R} z {H0 F0 F H σ} E X Q q qx => a.ok.run z E X _ (fun ds M1 k1 vs F1 H1 E1 f1 r1 => by
  match ds, k1 with
  | [d, e, t], k1 =>
    cases r1 with
    | cons r1 rr =>
      cases rr with
      | cons r2 rr =>
        cases rr with
        | cons r3 rr =>
          cases rr
          obtain ⟨a, l, gd, rfl, h1, ⟨xs, h2⟩, h3⟩ := lq_at r1 k1 E1.en.ef E1.st
          obtain ⟨b, m, ge, rfl, j1, ⟨ys, j2⟩, j3⟩ := lq_at r2 h1 E1.en.ef E1.st
          have j1' : zip3T k l m gd ge t M1 := j1
          cases t with
          | tup n =>
            cases r3 with
            | tup ha rs =>
              exact ⟨a, b, _, xs, ys, _, rfl, h2, j2, SqT.of (E1.en.ef _ _ ha), q _ _ M1 j1' _ F1 H1 E1 f1 (wk_zip3 h3 j3 fun F' H' e1 e2 => ⟨_, SqT.of (e2 _ _ (e1 _ _ ha)), rs.mono e1⟩)⟩
          | _ => exact j1'.elim) qx⟩
theorem v_iZip3 {ar : BA K} {k : List D → (Sto → Prop) → Sto → Prop} : ((biZip3 ar).w M G k R) = (ar.w M G (iZip3K k) R) := rfl
theorem v_iZip3K {k : List D → (Sto → Prop) → Sto → Prop} {d e t : D} : (iZip3K k [d, e, t] M) = (lqK (zip3F1 k e t) M d) := rfl
theorem v_zip3F1 {k : List D → (Sto → Prop) → Sto → Prop} {e t : D} {l : List D} {gd : Sto → Prop} : (zip3F1 k e t l gd M) = lqK (zip3F2 k l gd t) M e := rfl
theorem v_zip3F2 {k : List D → (Sto → Prop) → Sto → Prop} {n : List D} {l m : List D} {gd ge : Sto → Prop} : (zip3F2 k l gd (.tup n) m ge M) = k (zip3D l m n) (fun M => gd M ∧ ge M) M := rfl
end
end Wp

set_option Elab.async false
set_option linter.all false
set_option maxRecDepth 100000
set_option maxHeartbeats 4000000
/-! range with a step -/
namespace Wp
open PySem PySem.Spec PyProof.Rows L2 Evl Cy
def rngC (lo c : Int) (n : Nat) : List D := (List.range n).map fun (i : Nat) => D.int (lo + (i : Int) * c)
theorem walk_rngC {K : PySem.W.Frag} {F : Hp} {lo c : Int} {n : Nat} : WkD K F (Itc lo c n) (rngC lo c n) :=
  wk_fn (f := fun (i : Nat) => lo + (i : Int) * c) (w := (⟨fun _ _ z _ => z, fun _ _ => Nat.le_refl _, fun i H x H' z _ y => ⟨z, y.1, y.2⟩⟩ : Walk (Itc lo c n) n (fun _ => True) fun i H x H' => i < n ∧ H' = H ∧ x = .int (lo + (i : Int) * c))) fun i H x H' y => y
def iRng3K (k : List D → (Sto → Prop) → Sto → Prop) : List D → Sto → Prop
  | [.int i, .int j, .int c], M => ∃ n, RgC i j c n ∧ k (rngC i c n) yes M
  | _, _ => False
def wIRng3 (a : WA) : WI := fun M G k R => a M G (iRng3K k) R
section
variable {K : PySem.W.Frag} {M : Sto} {G : List Sl} {R : Addr → Sto → Prop}
def biRng3 (a : BA K) : BI K := ⟨fun X => iRng3 (a.t X), wIRng3 a.w, fun {M G k R} z {H0 F0 F H σ} E X Q q qx => a.ok.run z E X _ (fun ds M1 k1 vs F1 H1 E1 f1 r1 => by
  match ds, k1 with
  | [.int i, .int j, .int c], k1 =>
    obtain ⟨n, h1, h2⟩ := k1
    cases r1 with
    | cons r1 rr =>
      cases rr with
      | cons r2 rr =>
        cases rr with
        | cons r3 rr =>
          cases rr
          cases r1
          cases r2
          cases r3
          exact ⟨i, j, c, n, rfl, h1, q _ yes M1 h2 _ F1 H1 E1 f1 (wk_of walk_rngC)⟩) qx⟩
theorem v_iRng3 {ar : BA K} {k : List D → (Sto → Prop) → Sto → Prop} : ((biRng3 ar).w M G k R) = (ar.w M G (iRng3K k) R) := rfl
theorem v_iRng3K {k : List D → (Sto → Prop) → Sto → Prop} {i j c : Int} : (iRng3K k [.int i, .int j, .int c] M) = (∃ n, RgC i j c n ∧ k (rngC i c n) yes M) := rfl
end
theorem size_down {a b : Int} (h : b ≤ a) : Builtin.Range.rangeSize a b (-1) = a - b := by
  unfold Builtin.Range.rangeSize
  rw [if_neg (by decide)]
  by_cases e : a > b
  · rw [if_pos e, show -(-1 : Int) = 1 from rfl, Int.ediv_one]
    omega
  · rw [if_neg e]
    omega
theorem rgc_down {a b : Int} (h1 : -1 ≤ b) (h2 : b ≤ a) (h3 : a < 1000000000) : RgC a b (-1) (a - b).toNat := by
  have hs := size_down h2
  have fit : ∀ {x : Int}, -1 ≤ x → x ≤ 1000000001 → Builtin.Range.rangeFitsLong x = true := fun {x} q1 q2 => by
    unfold Builtin.Range.rangeFitsLong
    simp
    omega
  refine ⟨by decide, by decide, ?_, by rw [hs]; omega⟩
  unfold Builtin.Range.small
  simp
  rw [hs]
  exact ⟨⟨⟨⟨fit (by omega) (by omega), fit h1 (by omega)⟩, fit (by omega) (by omega)⟩, fit (by omega) (by omega)⟩, .inr (fit h1 (by omega))⟩
end Wp
/-! xs.reverse() -/
namespace Wp
open PySem PySem.Spec PyProof.Rows L2 Evl Cy
def turnF (P : D → Sto → Prop) (M : Sto) (p : Addr) : Option Nd → Prop
  | some (.lst l) => P .non (updM M p (.lst l.reverse))
  | _ => False
def turnK (P : D → Sto → Prop) : D → Sto → Prop
  | .ptr p, M => turnF P M p (M p)
  | _, _ => False
def wTurn (o : WE) : WE := fun M G P R => o M G (turnK P) R
section
variable {K : PySem.W.Frag} {M : Sto} {G : List Sl} {P : D → Sto → Prop} {R : Addr → Sto → Prop}
def bTurn (o : BE K) : BE K := ⟨fun X => tBM0 K "list" rReverse (o.t X), wTurn o.w, ⟨fun {M G P R} z {H0 F0 F H σ} E X Q q qx => o.ok.run z E X _ (fun d M1 k1 v F1 H1 E1 f1 r1 => by
  cases d with
  | ptr p =>
    cases r1
    have k2 : turnF P M1 p (M1 p) := k1
    cases y : M1 p with
    | none => rw [y] at k2; exact k2.elim
    | some n =>
      rw [y] at k2
      cases n with
      | lst l =>
        obtain ⟨xs, h1, h2⟩ := cell_lst E1 y
        exact ⟨Or.inl ⟨rfl, _, sq_of h1⟩, p, _, rfl, rfl, h1, q .non _ k2 .non F1 _ (E1.put y (.lst h2.rev)) f1 .non⟩
      | _ => exact k2.elim
  | _ => exact k1.elim) qx⟩⟩
theorem v_turn {a : BE K} : (bTurn a).w M G P R = a.w M G (turnK P) R := rfl
theorem v_turnK {p : Addr} : turnK P (.ptr p) M = turnF P M p (M p) := rfl
theorem v_turnF {p : Addr} {l : List D} : turnF P M p (some (.lst l)) = P .non (updM M p (.lst l.reverse)) := rfl
end
end Wp

set_option Elab.async false
set_option linter.all false
set_option maxRecDepth 100000
set_option maxHeartbeats 4000000
namespace Cy
open PySem PySem.Spec PyProof.Rows PySem.W L2 Evl

section
variable {K : PySem.W.Frag} {ta : TA} {G : List Sl} {l : List D}
def zipD3 (l m n : List D) : List D := (List.range (min (min l.length m.length) n.length)).map fun i => D.tup [l.getD i .non, m.getD i .non, n.getD i .non]
theorem zipD3_len {l m n : List D} : (zipD3 l m n).length = min (min l.length m.length) n.length := by
  unfold zipD3
  rw [List.length_map, List.length_range]
theorem zipD3_at {l m n : List D} {i : Nat} (hi : i < l.length) (hj : i < m.length) (hk : i < n.length) : (zipD3 l m n)[i]? = some (D.tup [l[i], m[i], n[i]]) := by
  unfold zipD3
  rw [List.getElem?_map, List.getElem?_range (by omega)]
  show some (D.tup [l.getD i .non, m.getD i .non, n.getD i .non]) = _
  simp only [List.getD_eq_getElem?_getD, List.getElem?_eq_getElem hi, List.getElem?_eq_getElem hj, List.getElem?_eq_getElem hk, Option.getD_some]
theorem it_zip3 {m n : List D} (h : EvS K ta G [.lst l, .lst m, .tup n]) : ItD K (iZip3 K ta) G (zipD3 l m n) := .mk fun {H0 F0 F H σ} En R q => h En _ fun vs F1 H1 E1 f1 g1 n1 r1 => by
  cases r1 with
  | cons a b =>
    cases b with
    | cons b c =>
      cases c with
      | cons c d =>
        cases d
        cases a with
        | @lst pa xs _ ha rs =>
          cases b with
          | @lst pb ys _ hb rt =>
            cases c with
            | @tup pc zs _ hc ru =>
              refine ⟨_, _, _, _, _, _, rfl, sq_of (E1.ef _ _ ha), sq_of (E1.ef _ _ hb), st_of (E1.ef _ _ hc), q _ F1 H1 E1 f1 g1 n1 ?_⟩
              have ln1 := rs.length
              have ln2 := rt.length
              have ln3 := ru.length
              refine ⟨fun H => SqL K H pa xs ∧ SqL K H pb ys ∧ SqT K H pc zs, fun i H v H' => ∃ T x y u, v = .ref T ∧ H T = none ∧ H' = upd H T (.tup [x, y, u]) ∧ xs[i]? = some x ∧ ys[i]? = some y ∧ zs[i]? = some u, ⟨fun i H hi hg => ?_, fun H hg => ?_, fun i H x H' hi hg y => ?_⟩, fun H e => ⟨sq_of (e _ _ ha), sq_of (e _ _ hb), st_of (e _ _ hc)⟩, fun i H x' H' F1 e1 e2 y => ?_⟩
              · rw [zipD3_len] at hi
                exact ⟨xs, ys, zs, _, _, _, hg, List.getElem?_eq_getElem (by omega), List.getElem?_eq_getElem (by omega), List.getElem?_eq_getElem (by omega)⟩
              · rw [zipD3_len]
                exact ⟨xs, ys, zs, hg, ⟨by omega, by omega, by omega⟩, by omega⟩
              · obtain ⟨T, u, w, r, rfl, hT, rfl, y2, y3, y4⟩ := y
                exact ⟨T, u, w, r, rfl, hT, rfl, y2 xs hg.1, y3 ys hg.2.1, y4 zs hg.2.2⟩
              · obtain ⟨T, x, y, z, rfl, hT, rfl, hx, hy, hz⟩ := y
                have hi : i < l.length := by
                  rw [← rs.length]
                  exact (List.getElem?_eq_some_iff.mp hx).1
                have hj : i < m.length := by
                  rw [← rt.length]
                  exact (List.getElem?_eq_some_iff.mp hy).1
                have hk : i < n.length := by
                  rw [← ru.length]
                  exact (List.getElem?_eq_some_iff.mp hz).1
                obtain ⟨v, h1, h2⟩ := rs.get (List.getElem?_eq_getElem hi)
                rw [hx] at h1
                cases h1
                obtain ⟨w, h3, h4⟩ := rt.get (List.getElem?_eq_getElem hj)
                rw [hy] at h3
                cases h3
                obtain ⟨w, h5, h6⟩ := ru.get (List.getElem?_eq_getElem hk)
                rw [hz] at h5
                cases h5
                have ef : Ex F1 (upd F1 T (.tup [x, y, z])) := Ex.new (ex_none e2 hT)
                exact ⟨upd F1 T (.tup [x, y, z]), .tup [l[i], m[i], n[i]], ef, Ex.new hT, ex_upd_both e2, nw_upd hT (Nw.refl _ _), zipD3_at hi hj hk, .tup upd_same (.cons (h2.mono (e1.trans ef)) (.cons (h4.mono (e1.trans ef)) (.cons (h6.mono (e1.trans ef)) .nil)))⟩
/-- range(n - 1, -1, -1) -/
theorem it_rngDn {a : Int} {n : Nat} (h : EvS K ta G [.int a, .int (-1), .int (-1)]) (e : a + 1 = (n : Int)) (hn : n < 1000000000) : ItD K (iRng3 ta) G (downD 0 n) := .mk fun {H0 F0 F H σ} En R q => h En _ fun vs F1 H1 E1 f1 g1 n1 r1 => by
  cases r1 with
  | cons r1 rr =>
    cases rr with
    | cons r2 rr =>
      cases rr with
      | cons r3 rr =>
        cases rr
        cases r1
        cases r2
        cases r3
        have hr := RgC.neg (i := a) (j := -1) (by omega) (by omega) (by decide) (by decide)
        have hz : (a - -1).toNat = n := by omega
        rw [hz] at hr
        refine ⟨a, -1, -1, n, rfl, hr, q _ F1 H1 E1 f1 g1 n1 ?_⟩
        refine wk_fn (f := fun (i : Nat) => 0 + (n : Int) - 1 - (i : Int)) (w := (⟨fun _ _ hi _ => hi, fun _ _ => Nat.le_refl _, fun i H x H' hi _ y => ⟨hi, y.1, ?_⟩⟩ : Walk (Itc a (-1) n) n (fun _ => True) fun i H x H' => i < n ∧ H' = H ∧ x = .int (0 + (n : Int) - 1 - (i : Int)))) fun i H x H' y => y
        rw [y.2]
        congr 1
        omega
/-- xs.reverse() -/
theorem st_turn {i : Nat} (h : G[i]? = some (.own (.lst l))) : StD K (tDrop (tBM0 K "list" rReverse (tVar i))) G (.nx (G.set i (.own (.lst l.reverse)))) := .mk fun {H0 F0 F H σ E} En p => by
  unfold tDrop tBM0
  exact e_own h En fun q xs hq hH hF hr => ⟨Or.inl ⟨rfl, xs, sq_of hH⟩, q, xs, rfl, rfl, hH, p σ F _ (En.mut h hq (.lst hr.rev)) (Ex.refl F)⟩
end
end Cy

namespace Wp
open PySem PySem.Spec PyProof.Rows L2 Evl Cy
section
variable {K : PySem.W.Frag}
theorem body_WO0 {N : List Str} {T : List D → List D → Prop} {vs : List V} {H : Hp} {Q : VK} {E : XK} {b : BS K} (h : spO K T vs H Q E) (hn : ∀ ds r, T ds r → ds.length ≤ N.length) (hb : ∀ ds r, T ds r → b.w noM (args N.length ds) (outO r)) :
    b.t (fun _ => L2.E0) { nx := fun _ H' => Q .non H', rt := Q } (L2.start N vs) H := by
  obtain ⟨F, ds, l, e, ra, hR, q⟩ := h
  have E1 := start_M (M := noM) e ra (hn ds l hR) no_cells
  rw [unseen_no] at E1
  refine b.ok.run (hb ds l hR) E1 _ _ fun o M' z => ?_
  cases o with
  | rt d =>
    cases d with
    | ptr p =>
      have z' : M' p = some (.lst l) := z
      intro v F' H' ro f' r1
      cases r1
      obtain ⟨h1, o, h2, h3⟩ := ro.st p _ z'
      cases h3 with
      | lst h4 => exact q p _ F' H' ro.ro (ro.h0 p _ z') h1 h2 h4
    | _ => exact z.elim
  | _ => exact z.elim
theorem body_WM0 {N : List Str} {Rel : RelM} {vs : List V} {H : Hp} {Q : VK} {E : XK} {b : BS K} (h : spM K Rel vs H Q E) (hn : ∀ ds M P, Rel ds M P → ds.length ≤ N.length) (hx : ∀ ds M P, Rel ds M P → ∀ C M', ¬ P (.exc C) M') (hb : ∀ ds M P, Rel ds M P → b.w M (args N.length ds) (outM P)) :
    b.t (fun _ => L2.E0) { nx := fun _ H' => Q .non H', rt := Q } (L2.start N vs) H := by
  obtain ⟨F, ds, M, P, e, ra, c, hR, q⟩ := h
  have E1 := start_M e ra (hn ds M P hR) c
  refine b.ok.run (hb ds M P hR) E1 _ _ fun o M' z => ?_
  cases o with
  | nx G => exact fun σ F' H' E' f' => q (.ok .non) M' z .non F' H' E'.rom .non
  | rt d => exact fun v F' H' ro f' r1 => q (.ok d) M' z v F' H' ro r1
  | ex C G => exact absurd z (hx ds M P hR C M')
  | bk G => exact z.elim
  | ct G => exact z.elim
end
end Wp

set_option Elab.async false
set_option linter.all false
set_option maxRecDepth 100000
set_option maxHeartbeats 4000000
namespace L05
open PySem
open L2 hiding rLen
open Evl Cy TL
/-! a rail, its cranes, places on it -/
theorem wipe1 {G : List Sl} {j : Nat} {d : Sl} : (wipeG G [j]).set j d = G.set j d := by
  show (G.set j .no).set j d = G.set j d
  rw [List.set_set]
def amongI : D → Int → Int → Bool
  | .int i, a, b => decide (a ≤ i) && decide (i ≤ b)
  | _, _, _ => false
def R_is_among : List D → D → Prop := fun ds d => ∃ x a b, ds = [x, .int a, .int b] ∧ noObj x = true ∧ d = .bl (amongI x a b)
theorem ln_is_among {ds : List D} {d : D} (h : R_is_among ds d) : ds.length = 3 := by
  obtain ⟨x, a, b, rfl, _⟩ := h
  rfl
def crD (p : Int × Int) : D := .tup [.int p.1, .int p.2]
structure RailOk (e r : Int) (cr : List (Int × Int)) : Prop where
  e1 : 1 ≤ e
  e2 : e ≤ 1000000000000
  r1 : 1 ≤ r
  r2 : r ≤ 1000000
  c1 : 1 ≤ cr.length
  c2 : cr.length ≤ 6
  cs : ∀ p ∈ cr, 1 ≤ p.1 ∧ p.1 ≤ 1000000000 ∧ 1 ≤ p.2 ∧ p.2 ≤ 1000
  fit : ((cr.length : Int) - 1) * r ≤ e
def railFs (e r : Int) (cr : List (Int × Int)) : List (Str × D) := [("end", .int e), ("room", .int r), ("cranes", .tup (cr.map crD))]
def R_is_crane : List D → D → Prop := fun ds d => ∃ p : Int × Int, ds = [crD p] ∧ (1 ≤ p.1 ∧ p.1 ≤ 1000000000 ∧ 1 ≤ p.2 ∧ p.2 ≤ 1000) ∧ d = .bl true
theorem ln_is_crane {ds : List D} {d : D} (h : R_is_crane ds d) : ds.length = 1 := by
  obtain ⟨x, rfl, _⟩ := h
  rfl
def R_is_rail : List D → D → Prop := fun ds d => ∃ e r cr, ds = [.int e, .int r, .lst (cr.map crD)] ∧ RailOk e r cr ∧ d = .bl true
theorem ln_is_rail {ds : List D} {d : D} (h : R_is_rail ds d) : ds.length = 3 := by
  obtain ⟨x, a, b, rfl, _⟩ := h
  rfl
def R_Rail_init : List D → List (Str × D) → Prop := fun ds fs => ∃ e r cr, ds = [.int e, .int r, .lst (cr.map crD)] ∧ RailOk e r cr ∧ fs = railFs e r cr
theorem ln_Rail_init {ds : List D} {d : List (Str × D)} (h : R_Rail_init ds d) : ds.length = 3 := by
  obtain ⟨x, a, b, rfl, _⟩ := h
  rfl
def cellAt (ns : List Int) (k : Int) : Int := ns.getD k.toNat 0
def R_l_cell_at : List D → D → Prop := fun ds d => ∃ ns k, ds = [.scr ns, .int k] ∧ 0 ≤ k ∧ d = .int (cellAt ns k)
theorem ln_l_cell_at {ds : List D} {d : D} (h : R_l_cell_at ds d) : ds.length = 2 := by
  obtain ⟨x, a, rfl, _⟩ := h
  rfl
def mx1 (ns : List Int) (k : Int) : Int := (cellAt ns k * 48271 + 7919 * k + 12345) % 2147483647
def mx (ns : List Int) (k : Int) : Int :=
  if ns ≠ [] ∧ ns.getD 0 0 % 2 = 1 then cellAt ns k % 2000000000000000000000000000000000000000000000000000000000000 / 2 else mx1 ns k * (mx1 ns k + 69621 * k) % 2147483629
theorem mx_nn (ns : List Int) (k : Int) : 0 ≤ mx ns k := by
  unfold mx
  split
  · exact Int.ediv_nonneg (Int.emod_nonneg _ (by decide)) (by decide)
  · exact Int.emod_nonneg _ (by decide)
def R_l_mixed : List D → D → Prop := fun ds d => ∃ ns k, ds = [.scr ns, .int k] ∧ 0 ≤ k ∧ k ≤ 1000 ∧ d = .int (mx ns k)
theorem ln_l_mixed {ds : List D} {d : D} (h : R_l_mixed ds d) : ds.length = 2 := by
  obtain ⟨x, a, rfl, _⟩ := h
  rfl
/-- places that are apart -/
structure Ap (e r : Int) (ps : List Int) : Prop where
  lo : ∀ i, i < ps.length → 0 ≤ ps.getD i 0
  hi : ∀ i, i < ps.length → ps.getD i 0 ≤ e
  gap : ∀ i, i + 1 < ps.length → ps.getD i 0 + r ≤ ps.getD (i + 1) 0
def sp_is_among (K : PySem.W.Frag) (c_Rail : Addr) : Sp := spD K R_is_among
def sp_is_crane (K : PySem.W.Frag) (c_Rail : Addr) : Sp := spD K R_is_crane
def sp_is_rail (K : PySem.W.Frag) (c_Rail : Addr) : Sp := spD K R_is_rail
def sp_Rail_init (K : PySem.W.Frag) (c_Rail : Addr) : Sp := spI K c_Rail R_Rail_init
def sp_l_cell_at (K : PySem.W.Frag) (c_Rail : Addr) : Sp := spD K R_l_cell_at
def sp_l_mixed (K : PySem.W.Frag) (c_Rail : Addr) : Sp := spD K R_l_mixed
section
variable {K : PySem.W.Frag} {c_Rail : Addr} {vs : List V} {H : Hp} {Q : VK} {E : XK}
theorem len_is_among (h : sp_is_among K c_Rail vs H Q E) : vs.length = 3 := spD_len (fun _ _ => ln_is_among) h
theorem len_is_crane (h : sp_is_crane K c_Rail vs H Q E) : vs.length = 1 := spD_len (fun _ _ => ln_is_crane) h
theorem len_is_rail (h : sp_is_rail K c_Rail vs H Q E) : vs.length = 3 := spD_len (fun _ _ => ln_is_rail) h
theorem len_Rail_init (h : sp_Rail_init K c_Rail vs H Q E) : vs.length = 4 := spI_len (fun _ _ => ln_Rail_init) h
theorem len_l_cell_at (h : sp_l_cell_at K c_Rail vs H Q E) : vs.length = 2 := spD_len (fun _ _ => ln_l_cell_at) h
theorem len_l_mixed (h : sp_l_mixed K c_Rail vs H Q E) : vs.length = 2 := spD_len (fun _ _ => ln_l_mixed) h
end

/-! spans, one by one -/
abbrev PS := List (Int × Int)
def pA (S : PS) (i : Nat) : Int := (S.getD i (0, 0)).1
def pB (S : PS) (i : Nat) : Int := (S.getD i (0, 0)).2
def lowE (r : Int) (S : PS) : Nat → Int
  | 0 => pA S 0
  | k + 1 => max (pA S (k + 1)) (lowE r S k + r)
def highD (r : Int) (S : PS) (n : Nat) : Nat → Int
  | 0 => pB S (n - 1)
  | j + 1 => min (pB S (n - 1 - (j + 1))) (highD r S n j - r)
def highE (r : Int) (S : PS) (c : Nat) : Int := highD r S S.length (S.length - 1 - c)
theorem lowE_ge (r : Int) (S : PS) : ∀ i, pA S i ≤ lowE r S i
  | 0 => Int.le_refl _
  | i + 1 => by
    unfold lowE
    omega
theorem lowE_gap (r : Int) (S : PS) (i : Nat) : lowE r S i + r ≤ lowE r S (i + 1) := by
  show _ ≤ max (pA S (i + 1)) (lowE r S i + r)
  omega
theorem highE_last (r : Int) (S : PS) {c : Nat} (h : c + 1 = S.length) : highE r S c = pB S c := by
  unfold highE
  have e : S.length - 1 - c = 0 := by omega
  rw [e]
  show pB S (S.length - 1) = pB S c
  have : S.length - 1 = c := by omega
  rw [this]
theorem highE_step (r : Int) (S : PS) {c : Nat} (h : c + 1 < S.length) : highE r S c = min (pB S c) (highE r S (c + 1) - r) := by
  unfold highE
  have e : S.length - 1 - c = (S.length - 1 - (c + 1)) + 1 := by omega
  rw [e]
  show min (pB S (S.length - 1 - ((S.length - 1 - (c + 1)) + 1))) _ = _
  have : S.length - 1 - ((S.length - 1 - (c + 1)) + 1) = c := by omega
  rw [this]
theorem highE_le (r : Int) (S : PS) {c : Nat} (h : c < S.length) : highE r S c ≤ pB S c := by
  by_cases q : c + 1 < S.length
  · rw [highE_step r S q]
    omega
  · rw [highE_last r S (by omega)]
    omega
/-- the lowest row fits -/
def Fits (r : Int) (S : PS) : Prop := ∀ i, i < S.length → lowE r S i ≤ pB S i
theorem fits_high {r : Int} {S : PS} (F : Fits r S) : ∀ j i, i + j + 1 = S.length → lowE r S i ≤ highE r S i
  | 0, i, h => by
    rw [highE_last r S (by omega)]
    exact F i (by omega)
  | j + 1, i, h => by
    have ih := fits_high F j (i + 1) (by omega)
    have g := lowE_gap r S i
    have f := F i (by omega)
    rw [highE_step r S (by omega)]
    omega
theorem fits_le {r : Int} {S : PS} (F : Fits r S) {i : Nat} (h : i < S.length) : lowE r S i ≤ highE r S i := fits_high F (S.length - 1 - i) i (by omega)
theorem pA_set_ne {S : PS} {c i : Nat} {p : Int × Int} (h : c ≠ i) : pA (S.set c p) i = pA S i := by
  unfold pA
  rw [List.getD_eq_getElem?_getD, List.getD_eq_getElem?_getD, List.getElem?_set_ne h]
theorem pB_set_ne {S : PS} {c i : Nat} {p : Int × Int} (h : c ≠ i) : pB (S.set c p) i = pB S i := by
  unfold pB
  rw [List.getD_eq_getElem?_getD, List.getD_eq_getElem?_getD, List.getElem?_set_ne h]
theorem pA_set {S : PS} {c : Nat} {p : Int × Int} (h : c < S.length) : pA (S.set c p) c = p.1 := by
  unfold pA
  rw [List.getD_eq_getElem?_getD, List.getElem?_set_self h]
  rfl
theorem pB_set {S : PS} {c : Nat} {p : Int × Int} (h : c < S.length) : pB (S.set c p) c = p.2 := by
  unfold pB
  rw [List.getD_eq_getElem?_getD, List.getElem?_set_self h]
  rfl
theorem lowE_set_lt {r : Int} {S : PS} {c : Nat} {p : Int × Int} : ∀ i, i < c → lowE r (S.set c p) i = lowE r S i
  | 0, h => pA_set_ne (by omega)
  | i + 1, h => by
    unfold lowE
    rw [pA_set_ne (by omega), lowE_set_lt i (by omega)]
theorem lowE_set_eq {r : Int} {S : PS} {c : Nat} {p : Int} (h : c < S.length) (hp : lowE r S c ≤ p) : lowE r (S.set c (p, p)) c = p := by
  cases c with
  | zero => exact pA_set h
  | succ c =>
    have g := lowE_gap r S c
    unfold lowE
    rw [pA_set h, lowE_set_lt c (by omega)]
    show max p _ = p
    omega
theorem lowE_set_gt {r : Int} {S : PS} (F : Fits r S) {c : Nat} {p : Int} (h : c < S.length) (hp : lowE r S c ≤ p) (hq : p ≤ highE r S c) : ∀ d, c + d < S.length → lowE r (S.set c (p, p)) (c + d) ≤ highE r S (c + d)
  | 0, _ => by
    show lowE r (S.set c (p, p)) c ≤ _
    rw [lowE_set_eq h hp]
    exact hq
  | d + 1, hd => by
    have ih := lowE_set_gt F h hp hq d (by omega)
    rw [highE_step r S (by omega)] at ih
    have g := fits_le F (i := c + d + 1) (by omega)
    have l := lowE_ge r S (c + d + 1)
    show max (pA (S.set c (p, p)) (c + d + 1)) (lowE r (S.set c (p, p)) (c + d) + r) ≤ highE r S (c + d + 1)
    rw [pA_set_ne (by omega)]
    omega
theorem fits_set {r : Int} {S : PS} (F : Fits r S) {c : Nat} {p : Int} (h : c < S.length) (hp : lowE r S c ≤ p) (hq : p ≤ highE r S c) : Fits r (S.set c (p, p)) := by
  intro i hi
  rw [List.length_set] at hi
  by_cases q : i < c
  · rw [lowE_set_lt i q, pB_set_ne (by omega)]
    exact F i hi
  · by_cases z : i = c
    · subst z
      rw [lowE_set_eq h hp, pB_set h]
      omega
    · have g := lowE_set_gt F h hp hq (i - c) (by omega)
      have e : c + (i - c) = i := by omega
      rw [e] at g
      rw [pB_set_ne (by omega)]
      exact Int.le_trans g (highE_le r S hi)
/-- by sums -/
theorem lowE_all {r : Int} {S : PS} : ∀ c o, o ≤ c → pA S o + ((c : Int) - (o : Int)) * r ≤ lowE r S c
  | 0, o, h => by
    have : o = 0 := by omega
    subst this
    show pA S 0 + ((0 : Int) - 0) * r ≤ pA S 0
    rw [Int.sub_self, Int.zero_mul]
    omega
  | c + 1, o, h => by
    by_cases q : o = c + 1
    · subst q
      rw [Int.sub_self, Int.zero_mul]
      have := lowE_ge r S (c + 1)
      omega
    · have ih := lowE_all (r := r) (S := S) c o (by omega)
      have g := lowE_gap r S c
      have e : (((c + 1 : Nat) : Int) - (o : Int)) * r = ((c : Int) - (o : Int)) * r + r := by
        have : (((c + 1 : Nat) : Int) - (o : Int)) = ((c : Int) - (o : Int)) + 1 := by omega
        rw [this, Int.add_mul, Int.one_mul]
      rw [e]
      omega
theorem lowE_some {r : Int} {S : PS} : ∀ c, ∃ o, o ≤ c ∧ pA S o + ((c : Int) - (o : Int)) * r = lowE r S c
  | 0 => ⟨0, Nat.le_refl 0, by
    rw [Int.sub_self, Int.zero_mul]
    exact Int.add_zero _⟩
  | c + 1 => by
    by_cases q : lowE r S c + r ≤ pA S (c + 1)
    · refine ⟨c + 1, Nat.le_refl _, ?_⟩
      rw [Int.sub_self, Int.zero_mul]
      show _ = max (pA S (c + 1)) (lowE r S c + r)
      omega
    · obtain ⟨o, h1, h2⟩ := lowE_some (r := r) (S := S) c
      refine ⟨o, by omega, ?_⟩
      have e : (((c + 1 : Nat) : Int) - (o : Int)) * r = ((c : Int) - (o : Int)) * r + r := by
        have : (((c + 1 : Nat) : Int) - (o : Int)) = ((c : Int) - (o : Int)) + 1 := by omega
        rw [this, Int.add_mul, Int.one_mul]
      rw [e]
      show _ = max (pA S (c + 1)) (lowE r S c + r)
      omega
theorem highE_all {r : Int} {S : PS} : ∀ d c, c + d < S.length → highE r S c ≤ pB S (c + d) - (((c + d : Nat) : Int) - (c : Int)) * r
  | 0, c, h => by
    show highE r S c ≤ pB S c - ((c : Int) - (c : Int)) * r
    rw [Int.sub_self, Int.zero_mul]
    have := highE_le r S (c := c) h
    omega
  | d + 1, c, h => by
    have ih := highE_all (r := r) (S := S) d (c + 1) (by omega)
    rw [highE_step r S (by omega)]
    have e : (((c + (d + 1) : Nat) : Int) - (c : Int)) * r = (((c + 1 + d : Nat) : Int) - ((c + 1 : Nat) : Int)) * r + r := by
      have : (((c + (d + 1) : Nat) : Int) - (c : Int)) = (((c + 1 + d : Nat) : Int) - ((c + 1 : Nat) : Int)) + 1 := by omega
      rw [this, Int.add_mul, Int.one_mul]
    rw [e]
    have e2 : c + (d + 1) = c + 1 + d := by omega
    rw [e2]
    omega
theorem highE_some {r : Int} {S : PS} : ∀ d c, c + d + 1 = S.length → ∃ x, c + x < S.length ∧ highE r S c = pB S (c + x) - (((c + x : Nat) : Int) - (c : Int)) * r
  | 0, c, h => ⟨0, by omega, by
    rw [highE_last r S (by omega)]
    show pB S c = pB S c - ((c : Int) - (c : Int)) * r
    rw [Int.sub_self, Int.zero_mul]
    omega⟩
  | d + 1, c, h => by
    have hs := highE_step r S (c := c) (by omega)
    by_cases q : pB S c ≤ highE r S (c + 1) - r
    · refine ⟨0, by omega, ?_⟩
      show _ = pB S c - ((c : Int) - (c : Int)) * r
      rw [Int.sub_self, Int.zero_mul, hs]
      omega
    · obtain ⟨x, h1, h2⟩ := highE_some (r := r) (S := S) d (c + 1) (by omega)
      refine ⟨x + 1, by omega, ?_⟩
      have e : (((c + (x + 1) : Nat) : Int) - (c : Int)) * r = (((c + 1 + x : Nat) : Int) - ((c + 1 : Nat) : Int)) * r + r := by
        have : (((c + (x + 1) : Nat) : Int) - (c : Int)) = (((c + 1 + x : Nat) : Int) - ((c + 1 : Nat) : Int)) + 1 := by omega
        rw [this, Int.add_mul, Int.one_mul]
      rw [e]
      have e2 : c + (x + 1) = c + 1 + x := by omega
      rw [e2, hs]
      omega
/-! goals, ranks -/
def goalD : Option Int → D
  | none => .non
  | some g => .int g
def wish (ps : List Int) (gs : List (Option Int)) (c : Nat) : Int := match gs.getD c none with
  | none => ps.getD c 0
  | some g => g
def plc (r : Int) (ps : List Int) (gs : List (Option Int)) (S : PS) (c : Nat) : Int := min (max (wish ps gs c) (lowE r S c)) (highE r S c)
def stp (r : Int) (ps : List Int) (gs : List (Option Int)) (S : PS) (c : Nat) : PS := S.set c (plc r ps gs S c, plc r ps gs S c)
def fst (r : Int) (ps : List Int) (gs : List (Option Int)) (rk : List Nat) (S : PS) : Nat → PS
  | 0 => S
  | k + 1 => stp r ps gs (fst r ps gs rk S k) (rk.getD k 0)
theorem fst_len {r : Int} {ps : List Int} {gs : List (Option Int)} {rk : List Nat} {S : PS} : ∀ k, (fst r ps gs rk S k).length = S.length
  | 0 => rfl
  | k + 1 => by
    show (stp r ps gs (fst r ps gs rk S k) (rk.getD k 0)).length = _
    unfold stp
    rw [List.length_set, fst_len k]
/-- what stays true of the spans -/
structure Spn (r e : Int) (n : Nat) (S : PS) : Prop where
  len : S.length = n
  fit : Fits r S
  lo : ∀ i, i < n → 0 ≤ pA S i
  hi : ∀ i, i < n → pB S i ≤ e
theorem plc_in {r e : Int} {n : Nat} {S : PS} (h : Spn r e n S) (ps : List Int) (gs : List (Option Int)) {c : Nat} (hc : c < n) : lowE r S c ≤ plc r ps gs S c ∧ plc r ps gs S c ≤ highE r S c := by
  have := fits_le h.fit (i := c) (by rw [h.len]; exact hc)
  unfold plc
  omega
theorem stp_spn {r e : Int} {n : Nat} {S : PS} (h : Spn r e n S) (ps : List Int) (gs : List (Option Int)) {c : Nat} (hc : c < n) : Spn r e n (stp r ps gs S c) := by
  have hl : c < S.length := by rw [h.len]; exact hc
  obtain ⟨h1, h2⟩ := plc_in h ps gs hc
  unfold stp
  generalize plc r ps gs S c = p at h1 h2
  refine ⟨by rw [List.length_set]; exact h.len, fits_set h.fit hl h1 h2, fun i hi => ?_, fun i hi => ?_⟩
  · by_cases q : c = i
    · subst q
      rw [pA_set hl]
      have := h.lo c hc
      have := lowE_ge r S c
      show 0 ≤ p
      omega
    · rw [pA_set_ne q]
      exact h.lo i hi
  · by_cases q : c = i
    · subst q
      rw [pB_set hl]
      have := h.hi c hc
      have := highE_le r S hl
      show p ≤ e
      omega
    · rw [pB_set_ne q]
      exact h.hi i hi
theorem fst_spn {r e : Int} {n : Nat} {S : PS} (h : Spn r e n S) (ps : List Int) (gs : List (Option Int)) {rk : List Nat} (hr : ∀ c ∈ rk, c < n) : ∀ k, k ≤ rk.length → Spn r e n (fst r ps gs rk S k)
  | 0, _ => h
  | k + 1, hk => stp_spn (fst_spn h ps gs hr k (by omega)) ps gs (hr _ (getD_in 0 rk k (by omega)))
theorem fst_fix {r e : Int} {n : Nat} {S : PS} (h : Spn r e n S) (ps : List Int) (gs : List (Option Int)) {rk : List Nat} (hr : ∀ c ∈ rk, c < n) : ∀ k, k ≤ rk.length → ∀ j, j < k → pA (fst r ps gs rk S k) (rk.getD j 0) = pB (fst r ps gs rk S k) (rk.getD j 0)
  | 0, _, j, hj => absurd hj (Nat.not_lt_zero j)
  | k + 1, hk, j, hj => by
    have hl : (fst r ps gs rk S k).length = n := by rw [fst_len, h.len]
    have hc : rk.getD k 0 < (fst r ps gs rk S k).length := by
      rw [hl]
      exact hr _ (getD_in 0 rk k (by omega))
    show pA (stp r ps gs (fst r ps gs rk S k) (rk.getD k 0)) _ = pB (stp r ps gs (fst r ps gs rk S k) (rk.getD k 0)) _
    unfold stp
    by_cases q : rk.getD k 0 = rk.getD j 0
    · rw [← q, pA_set hc, pB_set hc]
    · rw [pA_set_ne q, pB_set_ne q]
      have hjk : j < k := by
        by_cases z : j = k
        · subst z
          exact absurd rfl q
        · omega
      exact fst_fix h ps gs hr k (by omega) j hjk
theorem fixed_low {r e : Int} {n : Nat} {S : PS} (h : Spn r e n S) {i : Nat} (hi : i < n) (hf : pA S i = pB S i) : lowE r S i = pA S i := by
  have := h.fit i (by rw [h.len]; exact hi)
  have := lowE_ge r S i
  omega
theorem getA {S : PS} {i : Nat} (h : i < S.length) : (S.map (fun p => p.1)).getD i 0 = pA S i := by
  unfold pA
  rw [List.getD_eq_getElem?_getD, List.getElem?_map, List.getD_eq_getElem?_getD, List.getElem?_eq_getElem h]
  rfl
theorem spn_ap {r e : Int} {n : Nat} {S : PS} (h : Spn r e n S) (hf : ∀ i, i < n → pA S i = pB S i) : Ap e r (S.map fun p => p.1) := by
  have hl : (S.map fun p => p.1).length = n := by rw [List.length_map, h.len]
  refine ⟨fun i hi => ?_, fun i hi => ?_, fun i hi => ?_⟩
  · rw [hl] at hi
    rw [getA (by rw [h.len]; exact hi)]
    exact h.lo i hi
  · rw [hl] at hi
    rw [getA (by rw [h.len]; exact hi), hf i hi]
    exact h.hi i hi
  · rw [hl] at hi
    rw [getA (by rw [h.len]; omega), getA (by rw [h.len]; exact hi), ← fixed_low h (i := i) (by omega) (hf i (by omega)), ← fixed_low h hi (hf _ hi)]
    exact lowE_gap r S i
/-! the first spans -/
def sq {α : Type} (f : Nat → α) (n : Nat) : List α := (List.range n).map f
theorem sq_len {α : Type} (f : Nat → α) (n : Nat) : (sq f n).length = n := by
  unfold sq
  rw [List.length_map, List.length_range]
theorem sq_succ {α : Type} (f : Nat → α) (n : Nat) : sq f (n + 1) = sq f n ++ [f n] := by
  unfold sq
  rw [List.range_succ, List.map_append]
  rfl
theorem sq_getD {α : Type} (f : Nat → α) (n : Nat) (e : α) {i : Nat} (h : i < n) : (sq f n).getD i e = f i := by
  unfold sq
  rw [List.getD_eq_getElem?_getD, List.getElem?_map, List.getElem?_range h]
  rfl
theorem sq_mem {α : Type} {f : Nat → α} {n : Nat} {x : α} (h : x ∈ sq f n) : ∃ i, i < n ∧ x = f i := by
  unfold sq at h
  obtain ⟨i, hi, rfl⟩ := List.mem_map.mp h
  exact ⟨i, List.mem_range.mp hi, rfl⟩
theorem sq_map {α β : Type} (g : α → β) (f : Nat → α) (n : Nat) : (sq f n).map g = sq (fun i => g (f i)) n := by
  unfold sq
  rw [List.map_map]
  rfl
def stepAt (cr : List (Int × Int)) (ws : List Bool) (i : Nat) : Int := if ws.getD i false then 0 else pA cr i
def side (e : Int) (cr : List (Int × Int)) (ps : List Int) (ws : List Bool) (i : Nat) : Int × Int := (max 0 (ps.getD i 0 - stepAt cr ws i), min e (ps.getD i 0 + stepAt cr ws i))
def sides (e : Int) (cr : List (Int × Int)) (ps : List Int) (ws : List Bool) : PS := sq (side e cr ps ws) ps.length
theorem step_nn {e r : Int} {cr : List (Int × Int)} (ok : RailOk e r cr) {ws : List Bool} {i : Nat} (h : i < cr.length) : 0 ≤ stepAt cr ws i := by
  unfold stepAt
  split
  · exact Int.le_refl 0
  · have := (ok.cs _ (getD_in (0, 0) cr i h)).1
    unfold pA
    omega
theorem sides_spn {e r : Int} {cr : List (Int × Int)} (ok : RailOk e r cr) {ps : List Int} (ap : Ap e r ps) (hl : ps.length = cr.length) (ws : List Bool) : Spn r e ps.length (sides e cr ps ws) := by
  have hA : ∀ i, i < ps.length → pA (sides e cr ps ws) i = max 0 (ps.getD i 0 - stepAt cr ws i) := fun i hi => by
    unfold pA sides
    rw [sq_getD _ _ _ hi]
    rfl
  have hB : ∀ i, i < ps.length → pB (sides e cr ps ws) i = min e (ps.getD i 0 + stepAt cr ws i) := fun i hi => by
    unfold pB sides
    rw [sq_getD _ _ _ hi]
    rfl
  have hlow : ∀ i, i < ps.length → lowE r (sides e cr ps ws) i ≤ ps.getD i 0 := by
    intro i
    induction i with
    | zero =>
      intro hi
      show pA _ 0 ≤ _
      rw [hA 0 hi]
      have := ap.lo 0 hi
      have := step_nn ok (ws := ws) (i := 0) (by omega)
      omega
    | succ i ih =>
      intro hi
      have h1 := ih (by omega)
      show max (pA _ (i + 1)) _ ≤ _
      rw [hA _ hi]
      have := ap.lo _ hi
      have := ap.gap i hi
      have := step_nn ok (ws := ws) (i := i + 1) (by omega)
      omega
  refine ⟨sq_len _ _, fun i hi => ?_, fun i hi => ?_, fun i hi => ?_⟩
  · have hi' : i < ps.length := by
      have := sq_len (side e cr ps ws) ps.length
      unfold sides at hi
      omega
    rw [hB i hi']
    have := hlow i hi'
    have := ap.hi i hi'
    have := step_nn ok (ws := ws) (i := i) (by omega)
    omega
  · rw [hA i hi]
    omega
  · rw [hB i hi]
    omega

/-! rows that are let -/
theorem sq_set {α : Type} (f : Nat → α) (n j : Nat) (x : α) : (sq f n).set j x = sq (fun k => if k = j then x else f k) n := by
  unfold sq
  apply List.ext_getElem
  · rw [List.length_set, List.length_map, List.length_map]
  · intro i h1 h2
    rw [List.getElem_set, List.getElem_map, List.getElem_map, List.getElem_range]
    by_cases q : j = i
    · rw [if_pos q, if_pos q.symm]
    · rw [if_neg q, if_neg fun z => q z.symm]
theorem sq_ext {α : Type} {f g : Nat → α} {n : Nat} (h : ∀ k, k < n → f k = g k) : sq f n = sq g n := by
  unfold sq
  exact List.map_congr_left fun i hi => h i (List.mem_range.mp hi)
theorem sq_of {α : Type} (e : α) (l : List α) : l = sq (fun k => l.getD k e) l.length := by
  unfold sq
  apply List.ext_getElem
  · rw [List.length_map, List.length_range]
  · intro i h1 h2
    rw [List.getElem_map, List.getElem_range, List.getD_eq_getElem?_getD, List.getElem?_eq_getElem h1]
    rfl
theorem sq_rev {α : Type} (f : Nat → α) (n : Nat) : (sq f n).reverse = sq (fun k => f (n - 1 - k)) n := by
  unfold sq
  apply List.ext_getElem
  · rw [List.length_reverse, List.length_map, List.length_map]
  · intro i h1 h2
    rw [List.getElem_reverse, List.getElem_map, List.getElem_map, List.getElem_range, List.getElem_range, List.length_map, List.length_range]
def InK (e : Int) (cr : List (Int × Int)) (ps row : List Int) (ws : List Bool) (k : Nat) : Prop := (0 ≤ row.getD k 0 ∧ row.getD k 0 ≤ e) ∧ ps.getD k 0 - stepAt cr ws k ≤ row.getD k 0 ∧ row.getD k 0 ≤ ps.getD k 0 + stepAt cr ws k
instance {e : Int} {cr : List (Int × Int)} {ps row : List Int} {ws : List Bool} {k : Nat} : Decidable (InK e cr ps row ws k) := by
  unfold InK
  exact inferInstance
def gapB (r : Int) (row : List Int) : Bool := (sq (fun i => decide (r ≤ row.getD (i + 1) 0 - row.getD i 0)) (row.length - 1)).all id
def isLet (e r : Int) (cr : List (Int × Int)) (ps row : List Int) (ws : List Bool) : Bool := decide (∀ k, k < row.length → InK e cr ps row ws k) && gapB r row
theorem gapB_iff {r : Int} {row : List Int} : gapB r row = true ↔ ∀ i, i + 1 < row.length → row.getD i 0 + r ≤ row.getD (i + 1) 0 := by
  unfold gapB
  rw [List.all_eq_true]
  refine ⟨fun h i hi => ?_, fun h b hb => ?_⟩
  · have := h (decide (r ≤ row.getD (i + 1) 0 - row.getD i 0)) (by
      unfold sq
      exact List.mem_map.mpr ⟨i, List.mem_range.mpr (by omega), rfl⟩)
    have := of_decide_eq_true this
    omega
  · obtain ⟨i, hi, rfl⟩ := sq_mem hb
    have := h i (by omega)
    exact decide_eq_true (by omega)
theorem isLet_iff {e r : Int} {cr : List (Int × Int)} {ps row : List Int} {ws : List Bool} : isLet e r cr ps row ws = true ↔ (∀ k, k < row.length → InK e cr ps row ws k) ∧ ∀ i, i + 1 < row.length → row.getD i 0 + r ≤ row.getD (i + 1) 0 := by
  unfold isLet
  rw [Bool.and_eq_true, gapB_iff, decide_eq_true_iff]
theorem sides_A {e : Int} {cr : List (Int × Int)} {ps : List Int} {ws : List Bool} {i : Nat} (hi : i < ps.length) : pA (sides e cr ps ws) i = max 0 (ps.getD i 0 - stepAt cr ws i) := by
  unfold pA sides
  rw [sq_getD _ _ _ hi]
  rfl
theorem sides_B {e : Int} {cr : List (Int × Int)} {ps : List Int} {ws : List Bool} {i : Nat} (hi : i < ps.length) : pB (sides e cr ps ws) i = min e (ps.getD i 0 + stepAt cr ws i) := by
  unfold pB sides
  rw [sq_getD _ _ _ hi]
  rfl
theorem inK_iff {e : Int} {cr : List (Int × Int)} {ps row : List Int} {ws : List Bool} {k : Nat} (hk : k < ps.length) : InK e cr ps row ws k ↔ pA (sides e cr ps ws) k ≤ row.getD k 0 ∧ row.getD k 0 ≤ pB (sides e cr ps ws) k := by
  rw [sides_A hk, sides_B hk]
  unfold InK
  omega
/-- a row lies between the ends -/
theorem row_low {r : Int} {S : PS} {f : Nat → Int} {n : Nat} (h1 : ∀ i, i < n → pA S i ≤ f i) (h2 : ∀ i, i + 1 < n → f i + r ≤ f (i + 1)) : ∀ i, i < n → lowE r S i ≤ f i
  | 0, h => h1 0 h
  | i + 1, h => by
    have ih := row_low h1 h2 i (by omega)
    have a := h1 (i + 1) h
    have b := h2 i h
    show max (pA S (i + 1)) (lowE r S i + r) ≤ _
    omega
theorem row_high' {r : Int} {S : PS} {f : Nat → Int} (h1 : ∀ i, i < S.length → f i ≤ pB S i) (h2 : ∀ i, i + 1 < S.length → f i + r ≤ f (i + 1)) : ∀ d i, i + d + 1 = S.length → f i ≤ highE r S i
  | 0, i, h => by
    rw [highE_last r S (by omega)]
    exact h1 i (by omega)
  | d + 1, i, h => by
    have ih := row_high' h1 h2 d (i + 1) (by omega)
    have a := h1 i (by omega)
    have b := h2 i (by omega)
    rw [highE_step r S (by omega)]
    omega
theorem row_high {r : Int} {S : PS} {f : Nat → Int} (h1 : ∀ i, i < S.length → f i ≤ pB S i) (h2 : ∀ i, i + 1 < S.length → f i + r ≤ f (i + 1)) {i : Nat} (h : i < S.length) : f i ≤ highE r S i := row_high' h1 h2 (S.length - 1 - i) i (by omega)
/-- the row that gives way to one crane -/
def upR (r : Int) (ps : List Int) (c : Nat) (p : Int) : Nat → Int
  | 0 => p
  | d + 1 => max (ps.getD (c + (d + 1)) 0) (upR r ps c p d + r)
def dnR (r : Int) (ps : List Int) (c : Nat) (p : Int) : Nat → Int
  | 0 => p
  | d + 1 => min (ps.getD (c - (d + 1)) 0) (dnR r ps c p d - r)
def byf (r : Int) (ps : List Int) (c : Nat) (p : Int) (k : Nat) : Int := if k < c then dnR r ps c p (c - k) else upR r ps c p (k - c)
def byR (r : Int) (ps : List Int) (c : Nat) (p : Int) : List Int := sq (byf r ps c p) ps.length
theorem byf_self {r : Int} {ps : List Int} {c : Nat} {p : Int} : byf r ps c p c = p := by
  unfold byf
  rw [if_neg (Nat.lt_irrefl c), Nat.sub_self]
  rfl
theorem byf_gap {r : Int} {ps : List Int} {c : Nat} {p : Int} (i : Nat) : byf r ps c p i + r ≤ byf r ps c p (i + 1) := by
  by_cases h : i < c
  · have e : byf r ps c p i = min (ps.getD i 0) (dnR r ps c p (c - i - 1) - r) := by
      unfold byf
      rw [if_pos h]
      have : c - i = (c - i - 1) + 1 := by omega
      rw [this]
      show min (ps.getD (c - ((c - i - 1) + 1)) 0) _ = _
      have : c - ((c - i - 1) + 1) = i := by omega
      rw [this]
      rfl
    have e2 : byf r ps c p (i + 1) = dnR r ps c p (c - i - 1) := by
      by_cases q : i + 1 < c
      · unfold byf
        rw [if_pos q]
        congr 1
      · have : i + 1 = c := by omega
        rw [this, byf_self]
        have : c - i - 1 = 0 := by omega
        rw [this]
        rfl
    rw [e, e2]
    omega
  · have e : byf r ps c p i = upR r ps c p (i - c) := by
      unfold byf
      rw [if_neg h]
    have e2 : byf r ps c p (i + 1) = max (ps.getD (i + 1) 0) (upR r ps c p (i - c) + r) := by
      unfold byf
      rw [if_neg (by omega)]
      have : i + 1 - c = (i - c) + 1 := by omega
      rw [this]
      show max (ps.getD (c + ((i - c) + 1)) 0) _ = _
      have : c + ((i - c) + 1) = i + 1 := by omega
      rw [this]
    rw [e, e2]
    omega
section
variable {r : Int} {S : PS} {ps : List Int} (h1 : ∀ i, i < S.length → pA S i ≤ ps.getD i 0 ∧ ps.getD i 0 ≤ pB S i) (h2 : ∀ i, i + 1 < S.length → ps.getD i 0 + r ≤ ps.getD (i + 1) 0) {c : Nat} (hc : c < S.length) {p : Int} (hp : lowE r S c ≤ p) (hq : p ≤ highE r S c)
include h1 h2 hc hp hq
theorem upR_in : ∀ d, c + d < S.length → pA S (c + d) ≤ upR r ps c p d ∧ upR r ps c p d ≤ highE r S (c + d)
  | 0, _ => by
    have := lowE_ge r S c
    show pA S c ≤ p ∧ p ≤ highE r S c
    omega
  | d + 1, h => by
    have ih := (upR_in d (by omega)).2
    have a := h1 (c + (d + 1)) h
    have b := row_high (r := r) (S := S) (f := fun i => ps.getD i 0) (fun i hi => (h1 i hi).2) h2 h
    have st := highE_step r S (c := c + d) (by omega)
    have e : c + d + 1 = c + (d + 1) := by omega
    rw [e] at st
    show pA S (c + (d + 1)) ≤ max (ps.getD (c + (d + 1)) 0) (upR r ps c p d + r) ∧ max (ps.getD (c + (d + 1)) 0) (upR r ps c p d + r) ≤ _
    omega
theorem dnR_in : ∀ d, d ≤ c → lowE r S (c - d) ≤ dnR r ps c p d ∧ dnR r ps c p d ≤ pB S (c - d)
  | 0, _ => by
    have := highE_le r S hc
    show lowE r S c ≤ p ∧ p ≤ pB S c
    omega
  | d + 1, h => by
    have ih := (dnR_in d (by omega)).1
    have a := h1 (c - (d + 1)) (by omega)
    have b := row_low (r := r) (S := S) (f := fun i => ps.getD i 0) (fun i hi => (h1 i hi).1) h2 (c - (d + 1)) (by omega)
    have g := lowE_gap r S (c - (d + 1))
    have e : c - (d + 1) + 1 = c - d := by omega
    rw [e] at g
    show _ ≤ min (ps.getD (c - (d + 1)) 0) (dnR r ps c p d - r) ∧ min (ps.getD (c - (d + 1)) 0) (dnR r ps c p d - r) ≤ _
    omega
theorem byf_in (k : Nat) (hk : k < S.length) : pA S k ≤ byf r ps c p k ∧ byf r ps c p k ≤ pB S k := by
  unfold byf
  by_cases q : k < c
  · rw [if_pos q]
    have h := dnR_in h1 h2 hc hp hq (c - k) (by omega)
    have e : c - (c - k) = k := by omega
    rw [e] at h
    have := lowE_ge r S k
    omega
  · rw [if_neg q]
    have h := upR_in h1 h2 hc hp hq (k - c) (by omega)
    have e : c + (k - c) = k := by omega
    rw [e] at h
    have := highE_le r S hk
    omega
end
/-- what a crane is given -/
structure Giv (e r : Int) (cr : List (Int × Int)) (ps : List Int) (ws : List Bool) : Prop where
  ok : RailOk e r cr
  ap : Ap e r ps
  lp : ps.length = cr.length
  lw : ws.length = cr.length
section
variable {e r : Int} {cr : List (Int × Int)} {ps : List Int} {ws : List Bool} (g : Giv e r cr ps ws)
include g
theorem Giv.spn : Spn r e ps.length (sides e cr ps ws) := sides_spn g.ok g.ap g.lp ws
theorem Giv.stay {i : Nat} (hi : i < (sides e cr ps ws).length) : pA (sides e cr ps ws) i ≤ ps.getD i 0 ∧ ps.getD i 0 ≤ pB (sides e cr ps ws) i := by
  rw [g.spn.len] at hi
  rw [sides_A hi, sides_B hi]
  have := g.ap.lo i hi
  have := g.ap.hi i hi
  have := step_nn g.ok (ws := ws) (i := i) (by rw [← g.lp]; exact hi)
  omega
theorem Giv.gap {i : Nat} (hi : i + 1 < (sides e cr ps ws).length) : ps.getD i 0 + r ≤ ps.getD (i + 1) 0 := by
  rw [g.spn.len] at hi
  exact g.ap.gap i hi
theorem Giv.by_in {c : Nat} (hc : c < ps.length) {p : Int} (hp : lowE r (sides e cr ps ws) c ≤ p) (hq : p ≤ highE r (sides e cr ps ws) c) {k : Nat} (hk : k < ps.length) : pA (sides e cr ps ws) k ≤ byf r ps c p k ∧ byf r ps c p k ≤ pB (sides e cr ps ws) k :=
  byf_in (fun i hi => g.stay hi) (fun i hi => g.gap hi) (by rw [g.spn.len]; exact hc) hp hq k (by rw [g.spn.len]; exact hk)
theorem Giv.by_let {c : Nat} (hc : c < ps.length) {p : Int} (hp : lowE r (sides e cr ps ws) c ≤ p) (hq : p ≤ highE r (sides e cr ps ws) c) : isLet e r cr ps (byR r ps c p) ws = true := by
  have hl : (byR r ps c p).length = ps.length := sq_len _ _
  rw [isLet_iff]
  refine ⟨fun k hk => ?_, fun i hi => ?_⟩ <;> rw [hl] at *
  · rw [inK_iff hk]
    have := g.by_in hc hp hq hk
    unfold byR
    rw [sq_getD _ _ _ hk]
    exact this
  · unfold byR
    rw [sq_getD _ _ _ hi, sq_getD _ _ _ (by omega)]
    exact byf_gap i
theorem Giv.let_in {row : List Int} (hl : row.length = ps.length) (h : isLet e r cr ps row ws = true) {c : Nat} (hc : c < ps.length) : lowE r (sides e cr ps ws) c ≤ row.getD c 0 ∧ row.getD c 0 ≤ highE r (sides e cr ps ws) c := by
  rw [isLet_iff] at h
  have hS := g.spn.len
  have hin : ∀ k, k < ps.length → pA (sides e cr ps ws) k ≤ row.getD k 0 ∧ row.getD k 0 ≤ pB (sides e cr ps ws) k := fun k hk => (inK_iff hk).mp (h.1 k (by omega))
  exact ⟨row_low (f := fun i => row.getD i 0) (n := ps.length) (fun i hi => (hin i hi).1) (fun i hi => h.2 i (by omega)) c hc, row_high (f := fun i => row.getD i 0) (fun i hi => (hin i (by omega)).2) (fun i hi => h.2 i (by omega)) (by omega)⟩
theorem Giv.by_not {c : Nat} (hc : c < ps.length) {p : Int} (hp : p < lowE r (sides e cr ps ws) c ∨ highE r (sides e cr ps ws) c < p) : isLet e r cr ps (byR r ps c p) ws = false := by
  cases q : isLet e r cr ps (byR r ps c p) ws with
  | false => rfl
  | true =>
    have := g.let_in (sq_len _ _) q hc
    unfold byR at this
    rw [sq_getD _ _ _ hc, byf_self] at this
    omega
theorem Giv.by_ap {c : Nat} (hc : c < ps.length) {p : Int} (hp : lowE r (sides e cr ps ws) c ≤ p) (hq : p ≤ highE r (sides e cr ps ws) c) : Ap e r (byR r ps c p) := by
  have hl : (byR r ps c p).length = ps.length := sq_len _ _
  refine ⟨fun i hi => ?_, fun i hi => ?_, fun i hi => ?_⟩ <;> rw [hl] at hi <;> unfold byR
  · rw [sq_getD _ _ _ hi]
    have := (g.by_in hc hp hq hi).1
    have := g.spn.lo i hi
    omega
  · rw [sq_getD _ _ _ hi]
    have := (g.by_in hc hp hq hi).2
    have := g.spn.hi i hi
    omega
  · rw [sq_getD _ _ _ hi, sq_getD _ _ _ (by omega)]
    exact byf_gap i
theorem Giv.step0 {i : Nat} (hi : i < ps.length) (hw : ws.getD i false = true) : pA (sides e cr ps ws) i = ps.getD i 0 ∧ pB (sides e cr ps ws) i = ps.getD i 0 := by
  rw [sides_A hi, sides_B hi]
  unfold stepAt
  rw [if_pos hw]
  have := g.ap.lo i hi
  have := g.ap.hi i hi
  omega
theorem Giv.step1 {i : Nat} (hi : i < ps.length) (hw : ws.getD i false = false) : pA (sides e cr ps ws) i = max 0 (ps.getD i 0 - pA cr i) ∧ pB (sides e cr ps ws) i = min e (ps.getD i 0 + pA cr i) := by
  rw [sides_A hi, sides_B hi]
  unfold stepAt
  rw [if_neg (by rw [hw]; exact Bool.false_ne_true)]
  exact ⟨rfl, rfl⟩
end

/-! promises of the second part -/
def wsD (ws : List Bool) : D := .lst (ws.map D.bl)
def gsD (gs : List (Option Int)) : D := .lst (gs.map goalD)
def loD (S : PS) : List D := S.map fun p => D.int p.1
def hiD (S : PS) : List D := S.map fun p => D.int p.2
def nat (c : Nat) : D := .int (c : Int)
def R_Rail_are_apart (c_Rail : Addr) : List D → D → Prop := fun ds d => ∃ e r cr ps, ds = [.obj c_Rail (railFs e r cr), .lst (ps.map D.int)] ∧ RailOk e r cr ∧ Ap e r ps ∧ ps.length = cr.length ∧ d = .bl true
theorem ln_Rail_are_apart {c_Rail : Addr} {ds : List D} {d : D} (h : R_Rail_are_apart c_Rail ds d) : ds.length = 2 := by
  obtain ⟨e, r, cr, ps, rfl, _⟩ := h
  rfl
def R_bounds (c_Rail : Addr) : List D → List D → List D → Prop := fun ds l m => ∃ e r cr ps ws, ds = [.obj c_Rail (railFs e r cr), .lst (ps.map D.int), wsD ws] ∧ RailOk e r cr ∧ ps.length = cr.length ∧ ws.length = cr.length ∧ l = loD (sides e cr ps ws) ∧ m = hiD (sides e cr ps ws)
theorem ln_bounds {c_Rail : Addr} {ds l m : List D} (h : R_bounds c_Rail ds l m) : ds.length = 3 := by
  obtain ⟨e, r, cr, ps, ws, rfl, _⟩ := h
  rfl
def R_span_within : List D → D → Prop := fun ds d => ∃ (S : PS) (r : Int) (c : Nat), ds = [.lst (loD S), .lst (hiD S), .int r, nat c] ∧ (1 ≤ r ∧ r ≤ 1000000) ∧ c < S.length ∧ S.length ≤ 6 ∧ d = .tup [.int (lowE r S c), .int (highE r S c)]
theorem ln_span_within {ds : List D} {d : D} (h : R_span_within ds d) : ds.length = 4 := by
  obtain ⟨S, r, c, rfl, _⟩ := h
  rfl
def R_l_ends : List D → D → Prop := fun ds d => ∃ (S : PS) (r : Int) (c : Nat), ds = [.int r, .lst (S.map crD), nat c] ∧ c < S.length ∧ S.length ≤ 6 ∧ d = .tup [.int (lowE r S c), .int (highE r S c)]
theorem ln_l_ends {ds : List D} {d : D} (h : R_l_ends ds d) : ds.length = 3 := by
  obtain ⟨S, r, c, rfl, _⟩ := h
  rfl
/-- what a step is handed -/
structure Hand (e r : Int) (cr : List (Int × Int)) (ps : List Int) (ws : List Bool) (gs : List (Option Int)) (rk : List Nat) : Prop where
  ok : RailOk e r cr
  ap : Ap e r ps
  lp : ps.length = cr.length
  lw : ws.length = cr.length
  lg : gs.length = cr.length
  lr : rk.length = cr.length
  hr : ∀ c ∈ rk, c < cr.length
  cov : ∀ i, i < cr.length → i ∈ rk
def due (e r : Int) (cr : List (Int × Int)) (ps : List Int) (ws : List Bool) (gs : List (Option Int)) (rk : List Nat) : PS := fst r ps gs rk (sides e cr ps ws) rk.length
def R_moved (c_Rail : Addr) : List D → List D → Prop := fun ds l => ∃ e r cr ps ws gs rk, ds = [.obj c_Rail (railFs e r cr), .lst (ps.map D.int), wsD ws, gsD gs, .lst (rk.map nat)] ∧ Hand e r cr ps ws gs rk ∧ l = loD (due e r cr ps ws gs rk)
theorem ln_moved {c_Rail : Addr} {ds : List D} {d : List D} (h : R_moved c_Rail ds d) : ds.length = 5 := by
  obtain ⟨e, r, cr, ps, ws, gs, rk, rfl, _⟩ := h
  rfl
def R_l_due : List D → List D → Prop := fun ds l => ∃ e r cr ps ws gs rk, ds = [.tup [.int e, .int r, .lst (cr.map crD)], .lst (ps.map D.int), wsD ws, gsD gs, .lst (rk.map nat)] ∧ Hand e r cr ps ws gs rk ∧ l = loD (due e r cr ps ws gs rk)
theorem ln_l_due {ds : List D} {d : List D} (h : R_l_due ds d) : ds.length = 5 := by
  obtain ⟨e, r, cr, ps, ws, gs, rk, rfl, _⟩ := h
  rfl
def sp_Rail_are_apart (K : PySem.W.Frag) (c_Rail : Addr) : Sp := spD K (R_Rail_are_apart c_Rail)
def sp_bounds (K : PySem.W.Frag) (c_Rail : Addr) : Sp := spO2 K (R_bounds c_Rail)
def sp_span_within (K : PySem.W.Frag) (c_Rail : Addr) : Sp := spD K R_span_within
def sp_l_ends (K : PySem.W.Frag) (c_Rail : Addr) : Sp := spD K R_l_ends
def sp_moved (K : PySem.W.Frag) (c_Rail : Addr) : Sp := spO K (R_moved c_Rail)
def sp_l_due (K : PySem.W.Frag) (c_Rail : Addr) : Sp := spO K R_l_due
section
variable {K : PySem.W.Frag} {c_Rail : Addr} {vs : List V} {H : Hp} {Q : VK} {E : XK}
theorem len_Rail_are_apart (h : sp_Rail_are_apart K c_Rail vs H Q E) : vs.length = 2 := spD_len (fun _ _ => ln_Rail_are_apart) h
theorem len_bounds (h : sp_bounds K c_Rail vs H Q E) : vs.length = 3 := spO2_len (fun _ _ _ => ln_bounds) h
theorem len_span_within (h : sp_span_within K c_Rail vs H Q E) : vs.length = 4 := spD_len (fun _ _ => ln_span_within) h
theorem len_l_ends (h : sp_l_ends K c_Rail vs H Q E) : vs.length = 3 := spD_len (fun _ _ => ln_l_ends) h
theorem len_moved (h : sp_moved K c_Rail vs H Q E) : vs.length = 5 := spO_len (fun _ _ => ln_moved) h
theorem len_l_due (h : sp_l_due K c_Rail vs H Q E) : vs.length = 5 := spO_len (fun _ _ => ln_l_due) h
end

/-! the law's own rail -/
def rN (ns : List Int) : Nat := (1 + mx ns 0 % 6).toNat
def rR (ns : List Int) (s : Int) : Int := s * (1 + mx ns 0 / 6 % 4)
def farL : List Int := [0, 100000000007, 999000000000]
def rFar (ns : List Int) (s : Int) : Int := farL.getD (mx ns 1 / 3 % 3).toNat 0 * (if decide (1 < s) then 1 else 0)
def atf (ns : List Int) (s : Int) : Nat → Int
  | 0 => rFar ns s + s * (mx ns 1 % 5)
  | k + 1 => atf ns s k + rR ns s + s * (mx ns 1 / (5 + 7 * (k : Int)) % 6) + mx ns 2 / (3 + (k : Int)) % s
def rP (ns : List Int) (s : Int) : List Int := (List.range (rN ns)).map (atf ns s)
def rE (ns : List Int) (s : Int) : Int := atf ns s (rN ns - 1) + s * (1 + mx ns 2 / 40 % 9)
def crf (ns : List Int) (s : Int) (k : Nat) : Int × Int := (s * (1 + mx ns 3 / (1 + 5 * (k : Int)) % 5), 1 + mx ns 3 / (2 + 3 * (k : Int)) % 1000)
def rC (ns : List Int) (s : Int) : List (Int × Int) := (List.range (rN ns)).map (crf ns s)
def Scl (s : Int) : Prop := s = 1 ∨ s = 1000 ∨ s = 250000
theorem rN_in (ns : List Int) : 1 ≤ rN ns ∧ rN ns ≤ 6 ∧ ((rN ns : Nat) : Int) = 1 + mx ns 0 % 6 := by
  have h0 : 0 ≤ mx ns 0 % 6 := Int.emod_nonneg _ (by decide)
  have h1 : mx ns 0 % 6 < 6 := Int.emod_lt_of_pos _ (by decide)
  unfold rN
  omega
theorem rR_in (ns : List Int) {s : Int} (h : Scl s) : 1 ≤ rR ns s ∧ rR ns s ≤ 1000000 ∧ s ≤ rR ns s ∧ rR ns s ≤ 4 * s := by
  have h0 : 0 ≤ mx ns 0 / 6 % 4 := Int.emod_nonneg _ (by decide)
  have h1 : mx ns 0 / 6 % 4 < 4 := Int.emod_lt_of_pos _ (by decide)
  unfold rR
  rcases h with rfl | rfl | rfl <;> omega
theorem farL_in (i : Nat) : 0 ≤ farL.getD i 0 ∧ farL.getD i 0 ≤ 999000000000 := by
  match i with
  | 0 => decide
  | 1 => decide
  | 2 => decide
  | i + 3 => exact (by decide : (0 : Int) ≤ 0 ∧ (0 : Int) ≤ 999000000000)
theorem rFar_in (ns : List Int) (s : Int) : 0 ≤ rFar ns s ∧ rFar ns s ≤ 999000000000 := by
  have h := farL_in (mx ns 1 / 3 % 3).toNat
  unfold rFar
  split <;> omega
theorem atf_step (ns : List Int) {s : Int} (h : Scl s) (k : Nat) : atf ns s k + rR ns s ≤ atf ns s (k + 1) ∧ atf ns s (k + 1) ≤ atf ns s k + 10 * s := by
  have h0 : 0 ≤ mx ns 1 / (5 + 7 * (k : Int)) % 6 := Int.emod_nonneg _ (by decide)
  have h1 : mx ns 1 / (5 + 7 * (k : Int)) % 6 < 6 := Int.emod_lt_of_pos _ (by decide)
  have hr := rR_in ns h
  show _ ≤ atf ns s k + rR ns s + s * (mx ns 1 / (5 + 7 * (k : Int)) % 6) + mx ns 2 / (3 + (k : Int)) % s ∧ atf ns s k + rR ns s + s * (mx ns 1 / (5 + 7 * (k : Int)) % 6) + mx ns 2 / (3 + (k : Int)) % s ≤ _
  have hs : 0 < s := by rcases h with rfl | rfl | rfl <;> decide
  have h2 : 0 ≤ mx ns 2 / (3 + (k : Int)) % s := Int.emod_nonneg _ (by omega)
  have h3 : mx ns 2 / (3 + (k : Int)) % s < s := Int.emod_lt_of_pos _ hs
  generalize mx ns 2 / (3 + (k : Int)) % s = y at h2 h3
  generalize mx ns 1 / (5 + 7 * (k : Int)) % 6 = x at h0 h1
  rcases h with rfl | rfl | rfl <;> omega
theorem atf_in (ns : List Int) {s : Int} (h : Scl s) : ∀ k : Nat, (k : Int) * rR ns s ≤ atf ns s k ∧ 0 ≤ atf ns s k ∧ atf ns s k ≤ 999000000000 + 4 * s + 10 * s * k
  | 0 => by
    have h0 : 0 ≤ mx ns 1 % 5 := Int.emod_nonneg _ (by decide)
    have h1 : mx ns 1 % 5 < 5 := Int.emod_lt_of_pos _ (by decide)
    have hf := rFar_in ns s
    show ((0 : Nat) : Int) * _ ≤ rFar ns s + s * (mx ns 1 % 5) ∧ 0 ≤ rFar ns s + s * (mx ns 1 % 5) ∧ rFar ns s + s * (mx ns 1 % 5) ≤ _
    generalize mx ns 1 % 5 = x at h0 h1
    rw [show (((0 : Nat) : Int)) = 0 from rfl, Int.zero_mul]
    rcases h with rfl | rfl | rfl <;> omega
  | k + 1 => by
    obtain ⟨i1, i2, i3⟩ := atf_in ns h k
    have st := atf_step ns h k
    have hr := rR_in ns h
    have e : ((k + 1 : Nat) : Int) * rR ns s = (k : Int) * rR ns s + rR ns s := by
      rw [Int.natCast_add, Int.add_mul]
      show _ + 1 * _ = _
      rw [Int.one_mul]
    rw [e]
    refine ⟨by omega, by omega, ?_⟩
    rcases h with rfl | rfl | rfl <;> omega
theorem rP_len (ns : List Int) (s : Int) : (rP ns s).length = rN ns := by
  unfold rP
  rw [List.length_map, List.length_range]
theorem rC_len (ns : List Int) (s : Int) : (rC ns s).length = rN ns := by
  unfold rC
  rw [List.length_map, List.length_range]
theorem rP_get (ns : List Int) (s : Int) {i : Nat} (h : i < rN ns) : (rP ns s).getD i 0 = atf ns s i := by
  unfold rP
  rw [List.getD_eq_getElem?_getD, List.getElem?_map, List.getElem?_range h]
  rfl
theorem rC_get (ns : List Int) (s : Int) {i : Nat} (h : i < rN ns) : (rC ns s).getD i (0, 0) = crf ns s i := by
  unfold rC
  rw [List.getD_eq_getElem?_getD, List.getElem?_map, List.getElem?_range h]
  rfl
theorem rE_gt (ns : List Int) {s : Int} (h : Scl s) : atf ns s (rN ns - 1) + s ≤ rE ns s ∧ rE ns s ≤ atf ns s (rN ns - 1) + 9 * s := by
  have h0 : 0 ≤ mx ns 2 / 40 % 9 := Int.emod_nonneg _ (by decide)
  have h1 : mx ns 2 / 40 % 9 < 9 := Int.emod_lt_of_pos _ (by decide)
  unfold rE
  generalize mx ns 2 / 40 % 9 = x at h0 h1
  rcases h with rfl | rfl | rfl <;> omega
theorem atf_mono (ns : List Int) {s : Int} (h : Scl s) (i : Nat) : ∀ d, atf ns s i ≤ atf ns s (i + d)
  | 0 => Int.le_refl _
  | d + 1 => by
    have := atf_mono ns h i d
    have st := (atf_step ns h (i + d)).1
    have hr := rR_in ns h
    show atf ns s i ≤ atf ns s (i + d + 1)
    omega
theorem rail_ok (ns : List Int) {s : Int} (h : Scl s) : RailOk (rE ns s) (rR ns s) (rC ns s) := by
  have hn := rN_in ns
  have hr := rR_in ns h
  have he := rE_gt ns h
  have ha := atf_in ns h (rN ns - 1)
  have hs : 0 < s ∧ s ≤ 250000 := by rcases h with rfl | rfl | rfl <;> decide
  refine ⟨by omega, ?_, hr.1, hr.2.1, by rw [rC_len]; exact hn.1, by rw [rC_len]; exact hn.2.1, fun p hp => ?_, ?_⟩
  · have : ((rN ns - 1 : Nat) : Int) ≤ 5 := by omega
    rcases h with rfl | rfl | rfl <;> omega
  · unfold rC at hp
    obtain ⟨i, _, rfl⟩ := List.mem_map.mp hp
    unfold crf
    have h0 : 0 ≤ mx ns 3 / (1 + 5 * (i : Int)) % 5 := Int.emod_nonneg _ (by decide)
    have h1 : mx ns 3 / (1 + 5 * (i : Int)) % 5 < 5 := Int.emod_lt_of_pos _ (by decide)
    have h2 : 0 ≤ mx ns 3 / (2 + 3 * (i : Int)) % 1000 := Int.emod_nonneg _ (by decide)
    have h3 : mx ns 3 / (2 + 3 * (i : Int)) % 1000 < 1000 := Int.emod_lt_of_pos _ (by decide)
    dsimp only
    generalize mx ns 3 / (1 + 5 * (i : Int)) % 5 = x at h0 h1
    refine ⟨?_, ?_, by omega, by omega⟩ <;> (rcases h with rfl | rfl | rfl <;> omega)
  · rw [rC_len]
    have e : ((rN ns : Nat) : Int) - 1 = ((rN ns - 1 : Nat) : Int) := by omega
    rw [e]
    omega
theorem rail_ap (ns : List Int) {s : Int} (h : Scl s) : Ap (rE ns s) (rR ns s) (rP ns s) := by
  have hn := rN_in ns
  have he := rE_gt ns h
  have hs : 0 < s := by rcases h with rfl | rfl | rfl <;> decide
  refine ⟨fun i hi => ?_, fun i hi => ?_, fun i hi => ?_⟩ <;> rw [rP_len] at hi
  · rw [rP_get ns s hi]
    exact (atf_in ns h i).2.1
  · rw [rP_get ns s hi]
    have := atf_mono ns h i (rN ns - 1 - i)
    have e : i + (rN ns - 1 - i) = rN ns - 1 := by omega
    rw [e] at this
    omega
  · rw [rP_get ns s hi, rP_get ns s (by omega)]
    exact (atf_step ns h i).1
def R_l_rail : List D → D → Prop := fun ds d => ∃ ns s, ds = [.scr ns, .int s] ∧ Scl s ∧ d = .tup [.int (rE ns s), .int (rR ns s), .lst ((rC ns s).map crD), .lst ((rP ns s).map D.int)]
theorem ln_l_rail {ds : List D} {d : D} (h : R_l_rail ds d) : ds.length = 2 := by
  obtain ⟨ns, s, rfl, _⟩ := h
  rfl
def sp_l_rail (K : PySem.W.Frag) (c_Rail : Addr) : Sp := spD K R_l_rail
theorem len_l_rail {K : PySem.W.Frag} {c_Rail : Addr} {vs : List V} {H : Hp} {Q : VK} {E : XK} (h : sp_l_rail K c_Rail vs H Q E) : vs.length = 2 := spD_len (fun _ _ => ln_l_rail) h

/-! ranks, goals -/
def rkS (num : Int) (many : Nat) : Nat → List Nat × List Nat
  | 0 => (List.range many, [])
  | k + 1 => ((rkS num many k).1.eraseIdx (num / (1 + 7 * (k : Int)) % ((rkS num many k).1.length : Int)).toNat, (rkS num many k).2 ++ [(rkS num many k).1.getD (num / (1 + 7 * (k : Int)) % ((rkS num many k).1.length : Int)).toNat 0])
def ranks (num : Int) (many : Nat) : List Nat := (rkS num many many).2
theorem mem_erase {α : Type} (e : α) : ∀ (l : List α) (j : Nat) (x : α), j < l.length → x ∈ l → x ∈ l.eraseIdx j ∨ x = l.getD j e
  | a :: l, 0, x, _, hx => by
    rcases List.mem_cons.mp hx with h | h
    · exact .inr h
    · exact .inl h
  | a :: l, j + 1, x, hj, hx => by
    rcases List.mem_cons.mp hx with h | h
    · subst h
      exact .inl List.mem_cons_self
    · rcases mem_erase e l j x (by simpa using hj) h with z | z
      · exact .inl (List.mem_cons_of_mem _ z)
      · exact .inr (by simpa using z)
structure RkI (many k : Nat) (p : List Nat × List Nat) : Prop where
  l1 : p.1.length = many - k
  l2 : p.2.length = k
  m1 : ∀ x ∈ p.1, x < many
  m2 : ∀ x ∈ p.2, x < many
  all : ∀ x, x < many → x ∈ p.1 ∨ x ∈ p.2
theorem rkS_at {num : Int} {many k : Nat} (I : RkI many k (rkS num many k)) (hk : k < many) : (num / (1 + 7 * (k : Int)) % ((rkS num many k).1.length : Int)).toNat < (rkS num many k).1.length := by
  have h := I.l1
  have h0 : 0 ≤ num / (1 + 7 * (k : Int)) % ((rkS num many k).1.length : Int) := Int.emod_nonneg _ (by omega)
  have h1 : num / (1 + 7 * (k : Int)) % ((rkS num many k).1.length : Int) < ((rkS num many k).1.length : Int) := Int.emod_lt_of_pos _ (by omega)
  omega
theorem rkS_inv (num : Int) (many : Nat) : ∀ k, k ≤ many → RkI many k (rkS num many k)
  | 0, _ => ⟨List.length_range, rfl, fun x hx => List.mem_range.mp hx, fun x hx => (nomatch hx), fun x hx => .inl (List.mem_range.mpr hx)⟩
  | k + 1, hk => by
    have I := rkS_inv num many k (by omega)
    have hj := rkS_at I (by omega)
    show RkI many (k + 1) ((rkS num many k).1.eraseIdx (num / (1 + 7 * (k : Int)) % ((rkS num many k).1.length : Int)).toNat, (rkS num many k).2 ++ [(rkS num many k).1.getD (num / (1 + 7 * (k : Int)) % ((rkS num many k).1.length : Int)).toNat 0])
    generalize (num / (1 + 7 * (k : Int)) % ((rkS num many k).1.length : Int)).toNat = j at hj
    generalize rkS num many k = p at I hj
    have h1 := I.l1
    have h2 := I.l2
    refine ⟨?_, ?_, fun x hx => I.m1 x (List.mem_of_mem_eraseIdx hx), fun x hx => ?_, fun x hx => ?_⟩
    · show (p.1.eraseIdx j).length = _
      rw [List.length_eraseIdx, if_pos hj]
      omega
    · show (p.2 ++ [_]).length = _
      rw [List.length_append, List.length_singleton]
      omega
    · rcases List.mem_append.mp hx with h | h
      · exact I.m2 x h
      · rw [List.mem_singleton] at h
        subst h
        exact I.m1 _ (getD_in 0 _ _ hj)
    · rcases I.all x hx with h | h
      · rcases mem_erase 0 p.1 j x hj h with z | z
        · exact .inl z
        · exact .inr (List.mem_append.mpr (.inr (List.mem_singleton.mpr z)))
      · exact .inr (List.mem_append.mpr (.inl h))
theorem ranks_len (num : Int) (many : Nat) : (ranks num many).length = many := (rkS_inv num many many (Nat.le_refl _)).l2
theorem ranks_lt (num : Int) (many : Nat) : ∀ c ∈ ranks num many, c < many := (rkS_inv num many many (Nat.le_refl _)).m2
theorem ranks_all (num : Int) (many : Nat) {i : Nat} (h : i < many) : ∃ j, j < many ∧ (ranks num many).getD j 0 = i := by
  have I := rkS_inv num many many (Nat.le_refl _)
  rcases I.all i h with z | z
  · have := I.l1
    rw [Nat.sub_self] at this
    rw [List.length_eq_zero_iff.mp this] at z
    cases z
  · obtain ⟨j, hj, hz⟩ := List.getElem_of_mem z
    refine ⟨j, by rw [← I.l2]; exact hj, ?_⟩
    unfold ranks
    rw [List.getD_eq_getElem?_getD, List.getElem?_eq_getElem hj, hz]
    rfl
def R_l_ranks : List D → List D → Prop := fun ds l => ∃ (num : Int) (many : Nat), ds = [.int num, nat many] ∧ 1 ≤ many ∧ many ≤ 6 ∧ l = (ranks num many).map nat
theorem ln_l_ranks {ds l : List D} (h : R_l_ranks ds l) : ds.length = 2 := by
  obtain ⟨num, many, rfl, _⟩ := h
  rfl
def goalL (num e r : Int) (many k : Nat) : List (Option Int) := [none, some ((k : Int) * r), some (e - ((many : Int) - 1 - (k : Int)) * r), some ((k : Int) * r + num / (3 + 11 * (k : Int)) % (e - ((many : Int) - 1 - (k : Int)) * r - (k : Int) * r + 1))]
def goalAt (num e r : Int) (many k : Nat) : Option Int := (goalL num e r many k).getD (num / (2 + 5 * (k : Int)) % 4).toNat none
def R_l_goals : List D → List D → Prop := fun ds l => ∃ (num e r : Int) (many : Nat), ds = [.int num, .int e, .int r, nat many] ∧ 1 ≤ many ∧ many ≤ 6 ∧ (1 ≤ r ∧ r ≤ 1000000) ∧ ((many : Int) - 1) * r ≤ e ∧ l = (sq (goalAt num e r many) many).map goalD
theorem ln_l_goals {ds l : List D} (h : R_l_goals ds l) : ds.length = 4 := by
  obtain ⟨num, e, r, many, rfl, _⟩ := h
  rfl
def R_law : List D → D → Prop := fun ds d => ∃ ns, ds = [.scr ns] ∧ d = .bl true
theorem ln_law {ds : List D} {d : D} (h : R_law ds d) : ds.length = 1 := by
  obtain ⟨ns, rfl, _⟩ := h
  rfl
def sp_l_ranks (K : PySem.W.Frag) (c_Rail : Addr) : Sp := spO K R_l_ranks
def sp_l_goals (K : PySem.W.Frag) (c_Rail : Addr) : Sp := spO K R_l_goals
def sp_law (K : PySem.W.Frag) : Sp := spD K R_law
section
variable {K : PySem.W.Frag} {c_Rail : Addr} {vs : List V} {H : Hp} {Q : VK} {E : XK}
theorem len_l_ranks (h : sp_l_ranks K c_Rail vs H Q E) : vs.length = 2 := spO_len (fun _ _ => ln_l_ranks) h
theorem len_l_goals (h : sp_l_goals K c_Rail vs H Q E) : vs.length = 4 := spO_len (fun _ _ => ln_l_goals) h
theorem len_law (h : sp_law K vs H Q E) : vs.length = 1 := spD_len (fun _ _ => ln_law) h
end

/-! the program's own lows and highs -/
def R_lows (c_Rail : Addr) : List D → List D → Prop := fun ds l => ∃ e r cr ps ws, ds = [.obj c_Rail (railFs e r cr), .lst (ps.map D.int), wsD ws] ∧ Giv e r cr ps ws ∧ l = (sq (lowE r (sides e cr ps ws)) ps.length).map D.int
theorem ln_lows {c_Rail : Addr} {ds l : List D} (h : R_lows c_Rail ds l) : ds.length = 3 := by
  obtain ⟨e, r, cr, ps, ws, rfl, _⟩ := h
  rfl
def R_highs (c_Rail : Addr) : List D → List D → Prop := fun ds l => ∃ e r cr ps ws, ds = [.obj c_Rail (railFs e r cr), .lst (ps.map D.int), wsD ws] ∧ Giv e r cr ps ws ∧ l = (sq (highE r (sides e cr ps ws)) ps.length).map D.int
theorem ln_highs {c_Rail : Addr} {ds l : List D} (h : R_highs c_Rail ds l) : ds.length = 3 := by
  obtain ⟨e, r, cr, ps, ws, rfl, _⟩ := h
  rfl
def sp_lows (K : PySem.W.Frag) (c_Rail : Addr) : Sp := spO K (R_lows c_Rail)
def sp_highs (K : PySem.W.Frag) (c_Rail : Addr) : Sp := spO K (R_highs c_Rail)
section
variable {K : PySem.W.Frag} {c_Rail : Addr} {vs : List V} {H : Hp} {Q : VK} {E : XK}
theorem len_lows (h : sp_lows K c_Rail vs H Q E) : vs.length = 3 := spO_len (fun _ _ => ln_lows) h
theorem len_highs (h : sp_highs K c_Rail vs H Q E) : vs.length = 3 := spO_len (fun _ _ => ln_highs) h
end
/-- how far the cranes before push -/
def pshL (r : Int) (S : PS) : Nat → Int
  | 0 => 0
  | k + 1 => lowE r S k + r
def pshH (e r : Int) (S : PS) (n : Nat) : Nat → Int
  | 0 => e
  | j + 1 => highD r S n j - r
theorem highD_le (r : Int) (S : PS) (n : Nat) : ∀ j, highD r S n j ≤ pB S (n - 1 - j)
  | 0 => Int.le_refl _
  | j + 1 => by
    show min (pB S (n - 1 - (j + 1))) _ ≤ _
    omega
section
variable {e r : Int} {cr : List (Int × Int)} {ps : List Int} {ws : List Bool} (g : Giv e r cr ps ws)
include g
theorem Giv.low_at {i : Nat} (hi : i < ps.length) : max (pshL r (sides e cr ps ws) i) (if ws.getD i false then ps.getD i 0 else ps.getD i 0 - pA cr i) = lowE r (sides e cr ps ws) i := by
  have h0 : pA (sides e cr ps ws) i = max 0 (if ws.getD i false then ps.getD i 0 else ps.getD i 0 - pA cr i) := by
    rw [sides_A hi]
    unfold stepAt
    split <;> omega
  cases i with
  | zero =>
    show max 0 _ = pA _ 0
    rw [h0]
  | succ i =>
    have h1 := g.spn.lo i (by omega)
    have h2 := lowE_ge r (sides e cr ps ws) i
    have h3 := g.ok.r1
    show max (lowE r (sides e cr ps ws) i + r) _ = max (pA (sides e cr ps ws) (i + 1)) (lowE r (sides e cr ps ws) i + r)
    rw [h0]
    omega
theorem Giv.high_at {j : Nat} (hj : j < ps.length) : min (pshH e r (sides e cr ps ws) ps.length j) (ps.getD (ps.length - 1 - j) 0 + stepAt cr ws (ps.length - 1 - j)) = highD r (sides e cr ps ws) ps.length j := by
  have h0 := sides_B (e := e) (cr := cr) (ps := ps) (ws := ws) (i := ps.length - 1 - j) (by omega)
  cases j with
  | zero =>
    show min e _ = pB _ (ps.length - 1)
    exact h0.symm
  | succ j =>
    have h1 := g.spn.hi (ps.length - 1 - j) (by omega)
    have h2 := highD_le r (sides e cr ps ws) ps.length j
    have h3 := g.ok.r1
    show min (highD r (sides e cr ps ws) ps.length j - r) _ = min (pB (sides e cr ps ws) (ps.length - 1 - (j + 1))) (highD r (sides e cr ps ws) ps.length j - r)
    rw [h0]
    omega
end

/-! one crane is settled: how lows and highs go -/
section
variable {r : Int} {S : PS} {c : Nat} {p : Int} (F : Fits r S) (hc : c < S.length) (hp : lowE r S c ≤ p) (hq : p ≤ highE r S c)
include hc hp
theorem low_at : lowE r (S.set c (p, p)) c = p := lowE_set_eq hc hp
theorem low_next' : ∀ d, lowE r S (c + d) ≤ lowE r (S.set c (p, p)) (c + d) ∧ lowE r (S.set c (p, p)) (c + d + 1) = max (lowE r S (c + d + 1)) (lowE r (S.set c (p, p)) (c + d) + r)
  | 0 => by
    have h1 := low_at hc hp
    have h2 : pA (S.set c (p, p)) (c + 1) = pA S (c + 1) := pA_set_ne (by omega)
    show lowE r S c ≤ lowE r (S.set c (p, p)) c ∧ max (pA (S.set c (p, p)) (c + 1)) (lowE r (S.set c (p, p)) c + r) = max (max (pA S (c + 1)) (lowE r S c + r)) (lowE r (S.set c (p, p)) c + r)
    rw [h1, h2]
    omega
  | d + 1 => by
    have ih := low_next' d
    have h2 : pA (S.set c (p, p)) (c + (d + 1) + 1) = pA S (c + (d + 1) + 1) := pA_set_ne (by omega)
    have h0 : lowE r S (c + (d + 1)) ≤ lowE r (S.set c (p, p)) (c + (d + 1)) := by
      have e : c + (d + 1) = c + d + 1 := by omega
      rw [e, ih.2]
      omega
    refine ⟨h0, ?_⟩
    show max (pA (S.set c (p, p)) (c + (d + 1) + 1)) (lowE r (S.set c (p, p)) (c + (d + 1)) + r) = max (max (pA S (c + (d + 1) + 1)) (lowE r S (c + (d + 1)) + r)) (lowE r (S.set c (p, p)) (c + (d + 1)) + r)
    rw [h2]
    omega
theorem low_next {k : Nat} (hk : c < k) : lowE r (S.set c (p, p)) k = max (lowE r S k) (lowE r (S.set c (p, p)) (k - 1) + r) := by
  have h := (low_next' hc hp (k - 1 - c)).2
  have e1 : c + (k - 1 - c) + 1 = k := by omega
  have e2 : c + (k - 1 - c) = k - 1 := by omega
  rw [e1, e2] at h
  exact h
theorem low_rest {j : Nat} (hj : c < j) (h : lowE r (S.set c (p, p)) (j - 1) + r ≤ lowE r S j) : ∀ d, lowE r (S.set c (p, p)) (j + d) = lowE r S (j + d)
  | 0 => by
    have := low_next hc hp hj
    show lowE r (S.set c (p, p)) j = lowE r S j
    omega
  | d + 1 => by
    have ih := low_rest hj h d
    have := low_next hc hp (k := j + (d + 1)) (by omega)
    have g := lowE_gap r S (j + d)
    have e : j + (d + 1) - 1 = j + d := by omega
    rw [e, ih] at this
    show lowE r (S.set c (p, p)) (j + (d + 1)) = lowE r S (j + (d + 1))
    have e2 : j + (d + 1) = j + d + 1 := by omega
    rw [e2] at this ⊢
    omega
omit hp
include hq
theorem high_gt' : ∀ d k, c < k → k + d + 1 = S.length → highE r (S.set c (p, p)) k = highE r S k
  | 0, k, hk, hl => by
    rw [highE_last r S (by omega), highE_last r _ (by rw [List.length_set]; omega), pB_set_ne (by omega)]
  | d + 1, k, hk, hl => by
    rw [highE_step r S (by omega), highE_step r _ (by rw [List.length_set]; omega), pB_set_ne (by omega), high_gt' d (k + 1) (by omega) (by omega)]
theorem high_at : highE r (S.set c (p, p)) c = p := by
  by_cases h : c + 1 < S.length
  · have h1 := highE_step r S h
    rw [highE_step r _ (by rw [List.length_set]; exact h), pB_set hc, high_gt' hc hq (S.length - 1 - (c + 1)) (c + 1) (by omega) (by omega)]
    show min p _ = p
    omega
  · rw [highE_last r _ (by rw [List.length_set]; omega), pB_set hc]
theorem high_next' : ∀ d, d < c → highE r (S.set c (p, p)) (c - d) ≤ highE r S (c - d) ∧ highE r (S.set c (p, p)) (c - d - 1) = min (highE r S (c - d - 1)) (highE r (S.set c (p, p)) (c - d) - r)
  | 0, hd => by
    have h1 := high_at hc hq
    have s1 := highE_step r S (c := c - 1) (by omega)
    have s2 := highE_step r (S.set c (p, p)) (c := c - 1) (by rw [List.length_set]; omega)
    rw [pB_set_ne (by omega)] at s2
    have e : c - 1 + 1 = c := by omega
    rw [e] at s1 s2
    show highE r (S.set c (p, p)) c ≤ highE r S c ∧ highE r (S.set c (p, p)) (c - 1) = min (highE r S (c - 1)) (highE r (S.set c (p, p)) c - r)
    omega
  | d + 1, hd => by
    have ih := high_next' d (by omega)
    have e1 : c - d - 1 = c - (d + 1) := by omega
    rw [e1] at ih
    have s1 := highE_step r S (c := c - (d + 1) - 1) (by omega)
    have s2 := highE_step r (S.set c (p, p)) (c := c - (d + 1) - 1) (by rw [List.length_set]; omega)
    rw [pB_set_ne (by omega)] at s2
    have e : c - (d + 1) - 1 + 1 = c - (d + 1) := by omega
    rw [e] at s1 s2
    omega
theorem high_next {k : Nat} (hk : k < c) : highE r (S.set c (p, p)) k = min (highE r S k) (highE r (S.set c (p, p)) (k + 1) - r) := by
  have h := (high_next' hc hq (c - 1 - k) (by omega)).2
  have e1 : c - (c - 1 - k) - 1 = k := by omega
  have e2 : c - (c - 1 - k) = k + 1 := by omega
  rw [e1, e2] at h
  exact h
theorem high_rest {j : Nat} (hj : j < c) (h : highE r S j ≤ highE r (S.set c (p, p)) (j + 1) - r) : ∀ d, d ≤ j → highE r (S.set c (p, p)) (j - d) = highE r S (j - d)
  | 0, _ => by
    have := high_next hc hq hj
    show highE r (S.set c (p, p)) j = highE r S j
    omega
  | d + 1, hd => by
    have ih := high_rest hj h d (by omega)
    have := high_next hc hq (k := j - (d + 1)) (by omega)
    have e : j - (d + 1) + 1 = j - d := by omega
    rw [e, ih] at this
    have s1 := highE_step r S (c := j - (d + 1)) (by omega)
    rw [e] at s1
    omega
end
/-- the rows while one is settled -/
def upL (r : Int) (S : PS) (c : Nat) (p : Int) (j k : Nat) : Int := if k < j then lowE r (S.set c (p, p)) k else lowE r S k
def dnH (r : Int) (S : PS) (c : Nat) (p : Int) (j k : Nat) : Int := if j ≤ k then highE r (S.set c (p, p)) k else highE r S k
abbrev rowD (f : Nat → Int) (n : Nat) : Nd := .lst ((sq f n).map D.int)
theorem row_set {f g : Nat → Int} {n j : Nat} {x : Int} (h : ∀ k, k < n → (if k = j then x else f k) = g k) : ((sq f n).map D.int).set j (.int x) = (sq g n).map D.int := by
  rw [← List.map_set, sq_set, sq_ext h]
theorem row_at {f : Nat → Int} {n k : Nat} (h : k < n) : ((sq f n).map D.int)[k]? = some (.int (f k)) := by
  unfold sq
  rw [List.getElem?_map, List.getElem?_map, List.getElem?_range h]
  rfl
theorem row_atI {f : Nat → Int} {n : Nat} {k : Int} (h0 : 0 ≤ k) (h : k.toNat < n) : atI ((sq f n).map D.int) k = some (.int (f k.toNat)) := by
  have : k = ((k.toNat : Nat) : Int) := by omega
  rw [this, atI_nat (row_at h)]
  rfl
theorem row_len {f : Nat → Int} {n : Nat} : ((sq f n).map D.int).length = n := by rw [List.length_map, sq_len]
theorem upd_twice {M : Sto} {a : Addr} {x y : Nd} : updM (updM M a x) a y = updM M a y := by
  funext b
  unfold updM
  split <;> rfl
theorem upd_swap {M : Sto} {a b : Addr} {x y : Nd} (h : a ≠ b) : updM (updM M a x) b y = updM (updM M b y) a x := by
  funext z
  unfold updM
  by_cases q : z = a
  · subst q
    rw [if_neg h, if_pos rfl, if_pos rfl]
  · rw [if_neg q, if_neg q]
def R_settle (c_Rail : Addr) : RelM := fun ds M P => ∃ p q r S c x, ds = [.ptr p, .ptr q, .int r, nat c, .int x] ∧ p ≠ q ∧ M p = some (rowD (lowE r S) S.length) ∧ M q = some (rowD (highE r S) S.length) ∧ c < S.length ∧ S.length ≤ 6 ∧ lowE r S c ≤ x ∧ x ≤ highE r S c ∧
  P = fun o M' => o = .ok .non ∧ M' = updM (updM M p (rowD (lowE r (S.set c (x, x))) S.length)) q (rowD (highE r (S.set c (x, x))) S.length)
theorem ln_settle {c_Rail : Addr} {ds : List D} {M : Sto} {P : Res → Sto → Prop} (h : R_settle c_Rail ds M P) : ds.length = 5 := by
  obtain ⟨p, q, r, S, c, x, rfl, _⟩ := h
  rfl

def sp_settle (K : PySem.W.Frag) (c_Rail : Addr) : Sp := spM K (R_settle c_Rail)
theorem len_settle {K : PySem.W.Frag} {c_Rail : Addr} {vs : List V} {H : Hp} {Q : VK} {E : XK} (h : sp_settle K c_Rail vs H Q E) : vs.length = 5 := spM_len (fun _ _ _ => ln_settle) h
theorem settle_exc {c_Rail : Addr} (ds : List D) (M : Sto) (P : Res → Sto → Prop) (h : R_settle c_Rail ds M P) (C : Addr) (M' : Sto) : ¬ P (.exc C) M' := by
  obtain ⟨p, q, r, S, c, x, _, _, _, _, _, _, _, _, rfl⟩ := h
  exact fun z => nomatch z.1

def top (i : Nat) : Stmt := PySem.Challenge.pw_craneyard_k05_moves.main.body.getD i (.Pass ⟨0, 0, 0, 0⟩)
structure CF (K : PySem.W.Frag) (c_Rail : Addr) : Prop where
  cl_Rail : Cls K c_Rail
  n_Rail_end : NoAttr K c_Rail "end"
  n_Rail_room : NoAttr K c_Rail "room"
  n_Rail_cranes : NoAttr K c_Rail "cranes"

open Wp

abbrev s_is_among : Stmt := (top 10)
abbrev nm_is_among : List Str := ["thing", "least", "most"]
theorem sc_is_among : FnScope nm_is_among ["thing", "least", "most"] (defScope s_is_among) := ⟨rfl, rfl, rfl, by decide +kernel, rfl, by decide +kernel, by decide +kernel⟩
def t_is_among (K : PySem.W.Frag) (c_Rail : Addr) : TS := (tSeq (tIfS (tOr (tNot (tB (tCB (rIsi K) (tCons (tVar 0) (tCons (tC (.ty "int")) tNil))))) (tB (tCB (rIsi K) (tCons (tVar 0) (tCons (tC (.ty "bool")) tNil))))) (tRet (tC (.bl false))) tNext)
  (tRet (tChain (gLe) (gLe) (tVar 1) (tVar 0) (tVar 2))))

abbrev s_is_crane : Stmt := (top 19)
abbrev nm_is_crane : List Str := ["thing", "speed", "hoist"]
theorem sc_is_crane : FnScope nm_is_crane ["thing"] (defScope s_is_crane) := ⟨rfl, rfl, rfl, by decide +kernel, rfl, by decide +kernel, by decide +kernel⟩
def t_is_crane (K : PySem.W.Frag) (c_Rail : Addr) : TS := (tSeq (tIfS (tOr (tNot (tB (tCB (rIsi K) (tCons (tVar 0) (tCons (tC (.ty "tuple")) tNil))))) (tTest (tOp (gNe K) (tCB (rLen K) (tCons (tVar 0) tNil)) (tC (.int 2))))) (tRet (tC (.bl false))) tNext)
  (tSeq (tAsg (tVar 0) (gTup K 2 (gCons (gName 1) (gCons (gName 2) gNil))))
  (tRet (tAndV (tCall (sp_is_among K c_Rail) [] E0 (tCons (tVar 1) (tCons (tC (.int 1)) (tCons (tC (.int 1000000000)) tNil)))) (tCall (sp_is_among K c_Rail) [] E0 (tCons (tVar 2) (tCons (tC (.int 1)) (tCons (tC (.int 1000)) tNil))))))))

abbrev s_is_rail : Stmt := (top 18)
abbrev nm_is_rail : List Str := ["end", "room", "cranes", "crane"]
theorem sc_is_rail : FnScope nm_is_rail ["end", "room", "cranes"] (defScope s_is_rail) := ⟨rfl, rfl, rfl, by decide +kernel, rfl, by decide +kernel, by decide +kernel⟩
def t_is_rail (K : PySem.W.Frag) (c_Rail : Addr) : TS := (tSeq (tIfS (tOr (tNot (tB (tCall (sp_is_among K c_Rail) [] E0 (tCons (tVar 0) (tCons (tC (.int 1)) (tCons (tC (.int 1000000000000)) tNil)))))) (tNot (tB (tCall (sp_is_among K c_Rail) [] E0 (tCons (tVar 1) (tCons (tC (.int 1)) (tCons (tC (.int 1000000)) tNil))))))) (tRet (tC (.bl false))) tNext)
  (tSeq (tIfS (tOr (tNot (tB (tCB (rIsi K) (tCons (tVar 2) (tCons (tC (.ty "list")) tNil))))) (tNot (tTest (tChain (gLe) (gLe) (tC (.int 1)) (tCB (rLen K) (tCons (tVar 2) tNil)) (tC (.int 6)))))) (tRet (tC (.bl false))) tNext)
  (tSeq (tIfS (tNot (tB (tCB (rAll K) (tCons (tLc (iList K (tVar 2)) (gName 3) tYes (tCall (sp_is_crane K c_Rail) [] E0 (tCons (tVar 3) tNil)) [3]) tNil)))) (tRet (tC (.bl false))) tNext)
  (tRet (tOp (gLe) (tOp (gMul) (tOp (gSub) (tCB (rLen K) (tCons (tVar 2) tNil)) (tC (.int 1))) (tVar 1)) (tVar 0))))))

abbrev s_Rail_init : Stmt := (inClass (top 17) 0)
abbrev nm_Rail_init : List Str := ["self", "end", "room", "cranes", "speed", "hoist"]
theorem sc_Rail_init : FnScope nm_Rail_init ["self", "end", "room", "cranes"] (defScope s_Rail_init) := ⟨rfl, rfl, rfl, by decide +kernel, rfl, by decide +kernel, by decide +kernel⟩
def t_Rail_init (K : PySem.W.Frag) (c_Rail : Addr) : TS := (tSeq (tIfS (tNot (tB (tCall (sp_is_rail K c_Rail) [] E0 (tCons (tVar 1) (tCons (tVar 2) (tCons (tVar 3) tNil)))))) (tNever) tNext)
  (tSeq (sFld K (tVar 0) (tVar 1) "end")
  (tSeq (sFld K (tVar 0) (tVar 2) "room")
  (sFld K (tVar 0) (tCB (rTupOf K) (tCons (tLc (iList K (tVar 3)) (gTup K 2 (gCons (gName 4) (gCons (gName 5) gNil))) tYes (tTup (tCons (tVar 4) (tCons (tVar 5) tNil))) [4, 5]) tNil)) "cranes"))))

abbrev s_Rail_are_apart : Stmt := (inClass (top 17) 2)
abbrev nm_Rail_are_apart : List Str := ["self", "places", "least", "place"]
theorem sc_Rail_are_apart : FnScope nm_Rail_are_apart ["self", "places"] (defScope s_Rail_are_apart) := ⟨rfl, rfl, rfl, by decide +kernel, rfl, by decide +kernel, by decide +kernel⟩
def t_Rail_are_apart (K : PySem.W.Frag) (c_Rail : Addr) : TS := (tSeq (tIfS (tOr (tNot (tB (tCB (rIsi K) (tCons (tVar 1) (tCons (tC (.ty "list")) tNil))))) (tTest (tOp (gNe K) (tCB (rLen K) (tCons (tVar 1) tNil)) (tCB (rLen K) (tCons (tFld K (tVar 0) "cranes") tNil))))) (tRet (tC (.bl false))) tNext)
  (tSeq (tAsg (tC (.int 0)) (gName 2))
  (tSeq (tFor (iList K (tVar 1)) (gName 3) (tSeq (tIfS (tNot (tB (tCall (sp_is_among K c_Rail) [] E0 (tCons (tVar 3) (tCons (tVar 2) (tCons (tFld K (tVar 0) "end") tNil)))))) (tRet (tC (.bl false))) tNext)
  (tAsg (tOp (gAdd K) (tVar 3) (tFld K (tVar 0) "room")) (gName 2))))
  (tRet (tC (.bl true))))))

abbrev s_l_cell_at : Stmt := (top 21)
abbrev nm_l_cell_at : List Str := ["_law_script", "_law_k"]
theorem sc_l_cell_at : FnScope nm_l_cell_at ["_law_script", "_law_k"] (defScope s_l_cell_at) := ⟨rfl, rfl, rfl, by decide +kernel, rfl, by decide +kernel, by decide +kernel⟩
def t_l_cell_at (K : PySem.W.Frag) (c_Rail : Addr) : TS := (tSeq (tIfS (tTest (tOp (gLt) (tVar 1) (tCB (rLen K) (tCons (tVar 0) tNil)))) (tRet (tOp (gIx K) (tVar 0) (tVar 1))) tNext)
  (tRet (tC (.int 0))))

abbrev s_l_mixed : Stmt := (top 22)
abbrev nm_l_mixed : List Str := ["_law_script", "_law_k", "_law_cell", "_law_number"]
theorem sc_l_mixed : FnScope nm_l_mixed ["_law_script", "_law_k"] (defScope s_l_mixed) := ⟨rfl, rfl, rfl, by decide +kernel, rfl, by decide +kernel, by decide +kernel⟩
def t_l_mixed (K : PySem.W.Frag) (c_Rail : Addr) : TS := (tSeq (tAsg (tCall (sp_l_cell_at K c_Rail) [] E0 (tCons (tVar 0) (tCons (tVar 1) tNil))) (gName 2))
  (tSeq (tIfS (tAnd (tTest (tOp (gNe K) (tVar 0) (tLst tNil))) (tTest (tOp (gEq K) (tOp (gMod) (tOp (gIx K) (tVar 0) (tC (.int 0))) (tC (.int 2))) (tC (.int 1))))) (tRet (tOp (gFdv) (tOp (gMod) (tVar 2) (tOp (gMul) (tC (.int 2)) (tOp (gPow) (tC (.int 10)) (tC (.int 60))))) (tC (.int 2)))) tNext)
  (tSeq (tAsg (tOp (gMod) (tOp (gAdd K) (tOp (gAdd K) (tOp (gMul) (tVar 2) (tC (.int 48271))) (tOp (gMul) (tC (.int 7919)) (tVar 1))) (tC (.int 12345))) (tC (.int 2147483647))) (gName 3))
  (tRet (tOp (gMod) (tOp (gMul) (tVar 3) (tOp (gAdd K) (tVar 3) (tOp (gMul) (tC (.int 69621)) (tVar 1)))) (tC (.int 2147483629)))))))

abbrev s_lows : Stmt := (top 3)
abbrev nm_lows : List Str := ["rail", "places", "at_work", "lows", "pushed", "place", "works", "speed", "_", "least"]
theorem sc_lows : FnScope nm_lows ["rail", "places", "at_work"] (defScope s_lows) := ⟨rfl, rfl, rfl, by decide +kernel, rfl, by decide +kernel, by decide +kernel⟩
def t_lows (K : PySem.W.Frag) (c_Rail : Addr) : TS := (tSeq (tAsg (tLst tNil) (gName 3))
  (tSeq (tAsg (tC (.int 0)) (gName 4))
  (tSeq (tFor (iZip3 K (tCons (tVar 1) (tCons (tVar 2) (tCons (tFld K (tVar 0) "cranes") tNil)))) (gTup K 3 (gCons (gName 5) (gCons (gName 6) (gCons (gTup K 2 (gCons (gName 7) (gCons (gName 8) gNil))) gNil)))) (tSeq (tAsg (tCB (gMax K) (tCons (tVar 4) (tCons (tIf (tB (tVar 6)) (tVar 5) (tOp (gSub) (tVar 5) (tVar 7))) tNil))) (gName 9))
  (tSeq (tDrop (tBM K "list" rAppend (tVar 3) (tCons (tVar 9) tNil)))
  (tAsg (tOp (gAdd K) (tVar 9) (tFld K (tVar 0) "room")) (gName 4)))))
  (tRet (tVar 3)))))

abbrev s_highs : Stmt := (top 4)
abbrev nm_highs : List Str := ["rail", "places", "at_work", "highs", "pushed", "crane", "step", "greatest"]
theorem sc_highs : FnScope nm_highs ["rail", "places", "at_work"] (defScope s_highs) := ⟨rfl, rfl, rfl, by decide +kernel, rfl, by decide +kernel, by decide +kernel⟩
def t_highs (K : PySem.W.Frag) (c_Rail : Addr) : TS := (tSeq (tAsg (tLst tNil) (gName 3))
  (tSeq (tAsg (tFld K (tVar 0) "end") (gName 4))
  (tSeq (tFor (iRng3 (tCons (tOp (gSub) (tCB (rLen K) (tCons (tVar 1) tNil)) (tC (.int 1))) (tCons (tUn (rU fun i => .int (-i)) (tC (.int 1))) (tCons (tUn (rU fun i => .int (-i)) (tC (.int 1))) tNil)))) (gName 5) (tSeq (tAsg (tIf (tB (tOp (gIx K) (tVar 2) (tVar 5))) (tC (.int 0)) (tOp (gIx K) (tOp (gIx K) (tFld K (tVar 0) "cranes") (tVar 5)) (tC (.int 0)))) (gName 6))
  (tSeq (tAsg (tCB (gMin K) (tCons (tVar 4) (tCons (tOp (gAdd K) (tOp (gIx K) (tVar 1) (tVar 5)) (tVar 6)) tNil))) (gName 7))
  (tSeq (tDrop (tBM K "list" rAppend (tVar 3) (tCons (tVar 7) tNil)))
  (tAsg (tOp (gSub) (tVar 7) (tFld K (tVar 0) "room")) (gName 4))))))
  (tSeq (tDrop (tBM0 K "list" rReverse (tVar 3)))
  (tRet (tVar 3))))))

abbrev s_settle : Stmt := (top 5)
abbrev nm_settle : List Str := ["lows", "highs", "room", "crane", "place", "other"]
theorem sc_settle : FnScope nm_settle ["lows", "highs", "room", "crane", "place"] (defScope s_settle) := ⟨rfl, rfl, rfl, by decide +kernel, rfl, by decide +kernel, by decide +kernel⟩
def t_settle (K : PySem.W.Frag) (c_Rail : Addr) : TS := (tSeq (tAsg (tVar 4) (gSub (tVar 0) (tVar 3) rSetL))
  (tSeq (tAsg (tVar 4) (gSub (tVar 1) (tVar 3) rSetL))
  (tSeq (tFor (iRng2 (tCons (tOp (gAdd K) (tVar 3) (tC (.int 1))) (tCons (tCB (rLen K) (tCons (tVar 0) tNil)) tNil))) (gName 5) (tSeq (tIfS (tTest (tOp (gGe) (tOp (gIx K) (tVar 0) (tVar 5)) (tOp (gAdd K) (tOp (gIx K) (tVar 0) (tOp (gSub) (tVar 5) (tC (.int 1)))) (tVar 2)))) (tBreak) tNext)
  (tAsg (tOp (gAdd K) (tOp (gIx K) (tVar 0) (tOp (gSub) (tVar 5) (tC (.int 1)))) (tVar 2)) (gSub (tVar 0) (tVar 5) rSetL))))
  (tFor (iRng3 (tCons (tOp (gSub) (tVar 3) (tC (.int 1))) (tCons (tUn (rU fun i => .int (-i)) (tC (.int 1))) (tCons (tUn (rU fun i => .int (-i)) (tC (.int 1))) tNil)))) (gName 5) (tSeq (tIfS (tTest (tOp (gLe) (tOp (gIx K) (tVar 1) (tVar 5)) (tOp (gSub) (tOp (gIx K) (tVar 1) (tOp (gAdd K) (tVar 5) (tC (.int 1)))) (tVar 2)))) (tBreak) tNext)
  (tAsg (tOp (gSub) (tOp (gIx K) (tVar 1) (tOp (gAdd K) (tVar 5) (tC (.int 1)))) (tVar 2)) (gSub (tVar 1) (tVar 5) rSetL)))))))

abbrev s_l_ends : Stmt := (top 26)
abbrev nm_l_ends : List Str := ["_law_room", "_law_sides", "_law_crane", "_law_low", "_law_k", "_law_high"]
theorem sc_l_ends : FnScope nm_l_ends ["_law_room", "_law_sides", "_law_crane"] (defScope s_l_ends) := ⟨rfl, rfl, rfl, by decide +kernel, rfl, by decide +kernel, by decide +kernel⟩
def t_l_ends (K : PySem.W.Frag) (c_Rail : Addr) : TS := (tSeq (tAsg (tC .non) (gName 3))
  (tSeq (tFor (iRng1 (tCons (tOp (gAdd K) (tVar 2) (tC (.int 1))) tNil)) (gName 4) (tAsg (tIf (tTest (tOp (gIs) (tVar 3) (tC .non))) (tOp (gIx K) (tOp (gIx K) (tVar 1) (tVar 4)) (tC (.int 0))) (tCB (gMax K) (tCons (tOp (gIx K) (tOp (gIx K) (tVar 1) (tVar 4)) (tC (.int 0))) (tCons (tOp (gAdd K) (tVar 3) (tVar 0)) tNil)))) (gName 3)))
  (tSeq (tAsg (tC .non) (gName 5))
  (tSeq (tFor (iRevR (tRg2 (tVar 2) (tCB (rLen K) (tCons (tVar 1) tNil)))) (gName 4) (tAsg (tIf (tTest (tOp (gIs) (tVar 5) (tC .non))) (tOp (gIx K) (tOp (gIx K) (tVar 1) (tVar 4)) (tC (.int 1))) (tCB (gMin K) (tCons (tOp (gIx K) (tOp (gIx K) (tVar 1) (tVar 4)) (tC (.int 1))) (tCons (tOp (gSub) (tVar 5) (tVar 0)) tNil)))) (gName 5)))
  (tRet (tTup (tCons (tVar 3) (tCons (tVar 5) tNil))))))))

abbrev s_moved : Stmt := (top 2)
abbrev nm_moved : List Str := ["rail", "places", "at_work", "goals", "ranks", "wishes", "place", "wish", "lows", "highs", "crane"]
theorem sc_moved : FnScope nm_moved ["rail", "places", "at_work", "goals", "ranks"] (defScope s_moved) := ⟨rfl, rfl, rfl, by decide +kernel, rfl, by decide +kernel, by decide +kernel⟩
def t_moved (K : PySem.W.Frag) (c_Rail : Addr) : TS := (tSeq (tAsg (tLc (iZip K (tCons (tVar 1) (tCons (tVar 3) tNil))) (gTup K 2 (gCons (gName 6) (gCons (gName 7) gNil))) tYes (tIf (tTest (tOp (gIs) (tVar 7) (tC .non))) (tVar 6) (tVar 7)) [6, 7]) (gName 5))
  (tSeq (tIfS (tTest (tOp (gEq K) (tVar 5) (tVar 1))) (tRet (tVar 5)) tNext)
  (tSeq (tAsg (tCall (sp_lows K c_Rail) [] E0 (tCons (tVar 0) (tCons (tVar 1) (tCons (tVar 2) tNil)))) (gName 8))
  (tSeq (tAsg (tCall (sp_highs K c_Rail) [] E0 (tCons (tVar 0) (tCons (tVar 1) (tCons (tVar 2) tNil)))) (gName 9))
  (tSeq (tFor (iList K (tVar 4)) (gName 10) (tSeq (tAsg (tCB (gMin K) (tCons (tCB (gMax K) (tCons (tOp (gIx K) (tVar 5) (tVar 10)) (tCons (tOp (gIx K) (tVar 8) (tVar 10)) tNil))) (tCons (tOp (gIx K) (tVar 9) (tVar 10)) tNil))) (gName 6))
  (tDrop (tCall (sp_settle K c_Rail) [] E0 (tCons (tVar 8) (tCons (tVar 9) (tCons (tFld K (tVar 0) "room") (tCons (tVar 10) (tCons (tVar 6) tNil)))))))))
  (tRet (tVar 8)))))))

abbrev s_l_due : Stmt := (top 27)
abbrev nm_l_due : List Str := ["_law_rail_here", "_law_places", "_law_works", "_law_goals_here", "_law_by_rank", "_law_end", "_law_room", "_law_cranes", "_law_sides", "_law_k", "_law_place", "_law_far", "_law_crane", "_law_low", "_law_high", "_law_wish"]
theorem sc_l_due : FnScope nm_l_due ["_law_rail_here", "_law_places", "_law_works", "_law_goals_here", "_law_by_rank"] (defScope s_l_due) := ⟨rfl, rfl, rfl, by decide +kernel, rfl, by decide +kernel, by decide +kernel⟩
def t_l_due (K : PySem.W.Frag) (c_Rail : Addr) : TS := (tSeq (tAsg (tVar 0) (gTup K 3 (gCons (gName 5) (gCons (gName 6) (gCons (gName 7) gNil)))))
  (tSeq (tAsg (tLst tNil) (gName 8))
  (tSeq (tFor (iEnum K (tCons (tVar 1) tNil)) (gTup K 2 (gCons (gName 9) (gCons (gName 10) gNil))) (tSeq (tAsg (tIf (tB (tOp (gIx K) (tVar 2) (tVar 9))) (tC (.int 0)) (tOp (gIx K) (tOp (gIx K) (tVar 7) (tVar 9)) (tC (.int 0)))) (gName 11))
  (tDrop (tBM K "list" rAppend (tVar 8) (tCons (tTup (tCons (tCB (gMax K) (tCons (tC (.int 0)) (tCons (tOp (gSub) (tVar 10) (tVar 11)) tNil))) (tCons (tCB (gMin K) (tCons (tVar 5) (tCons (tOp (gAdd K) (tVar 10) (tVar 11)) tNil))) tNil))) tNil)))))
  (tSeq (tFor (iList K (tVar 4)) (gName 12) (tSeq (tAsg (tCall (sp_l_ends K c_Rail) [] E0 (tCons (tVar 6) (tCons (tVar 8) (tCons (tVar 12) tNil)))) (gTup K 2 (gCons (gName 13) (gCons (gName 14) gNil))))
  (tSeq (tAsg (tIf (tTest (tOp (gIs) (tOp (gIx K) (tVar 3) (tVar 12)) (tC .non))) (tOp (gIx K) (tVar 1) (tVar 12)) (tOp (gIx K) (tVar 3) (tVar 12))) (gName 15))
  (tSeq (tAsg (tIf (tTest (tOp (gLt) (tVar 15) (tVar 13))) (tVar 13) (tCB (gMin K) (tCons (tVar 15) (tCons (tVar 14) tNil)))) (gName 10))
  (tAsg (tTup (tCons (tVar 10) (tCons (tVar 10) tNil))) (gSub (tVar 8) (tVar 12) rSetL))))))
  (tRet (tLc (iList K (tVar 8)) (gTup K 2 (gCons (gName 13) (gCons (gName 14) gNil))) tYes (tVar 13) [13, 14]))))))

abbrev s_l_rail : Stmt := (top 23)
abbrev nm_l_rail : List Str := ["_law_script", "_law_scale", "_law_many", "_law_room", "_law_places", "_law_far", "_law_at", "_law_k", "_law_end", "_law_cranes", "_law_speed"]
theorem sc_l_rail : FnScope nm_l_rail ["_law_script", "_law_scale"] (defScope s_l_rail) := ⟨rfl, rfl, rfl, by decide +kernel, rfl, by decide +kernel, by decide +kernel⟩
def t_l_rail (K : PySem.W.Frag) (c_Rail : Addr) : TS := (tSeq (tAsg (tOp (gAdd K) (tC (.int 1)) (tOp (gMod) (tCall (sp_l_mixed K c_Rail) [] E0 (tCons (tVar 0) (tCons (tC (.int 0)) tNil))) (tC (.int 6)))) (gName 2))
  (tSeq (tAsg (tOp (gMul) (tVar 1) (tOp (gAdd K) (tC (.int 1)) (tOp (gMod) (tOp (gFdv) (tCall (sp_l_mixed K c_Rail) [] E0 (tCons (tVar 0) (tCons (tC (.int 0)) tNil))) (tC (.int 6))) (tC (.int 4))))) (gName 3))
  (tSeq (tAsg (tLst tNil) (gName 4))
  (tSeq (tAsg (tOp (gMul) (tOp (gIx K) (tLst (tCons (tC (.int 0)) (tCons (tOp (gAdd K) (tOp (gPow) (tC (.int 10)) (tC (.int 11))) (tC (.int 7))) (tCons (tOp (gSub) (tOp (gPow) (tC (.int 10)) (tC (.int 12))) (tOp (gPow) (tC (.int 10)) (tC (.int 9)))) tNil)))) (tOp (gMod) (tOp (gFdv) (tCall (sp_l_mixed K c_Rail) [] E0 (tCons (tVar 0) (tCons (tC (.int 1)) tNil))) (tC (.int 3))) (tC (.int 3)))) (tCB (gInt) (tCons (tOp (gGt) (tVar 1) (tC (.int 1))) tNil))) (gName 5))
  (tSeq (tAsg (tOp (gAdd K) (tVar 5) (tOp (gMul) (tVar 1) (tOp (gMod) (tCall (sp_l_mixed K c_Rail) [] E0 (tCons (tVar 0) (tCons (tC (.int 1)) tNil))) (tC (.int 5))))) (gName 6))
  (tSeq (tFor (iRng1 (tCons (tVar 2) tNil)) (gName 7) (tSeq (tDrop (tBM K "list" rAppend (tVar 4) (tCons (tVar 6) tNil)))
  (tAsg (tOp (gAdd K) (tOp (gAdd K) (tOp (gAdd K) (tVar 6) (tVar 3)) (tOp (gMul) (tVar 1) (tOp (gMod) (tOp (gFdv) (tCall (sp_l_mixed K c_Rail) [] E0 (tCons (tVar 0) (tCons (tC (.int 1)) tNil))) (tOp (gAdd K) (tC (.int 5)) (tOp (gMul) (tC (.int 7)) (tVar 7)))) (tC (.int 6))))) (tOp (gMod) (tOp (gFdv) (tCall (sp_l_mixed K c_Rail) [] E0 (tCons (tVar 0) (tCons (tC (.int 2)) tNil))) (tOp (gAdd K) (tC (.int 3)) (tVar 7))) (tVar 1))) (gName 6))))
  (tSeq (tAsg (tOp (gAdd K) (tOp (gIx K) (tVar 4) (tUn (rU fun i => .int (-i)) (tC (.int 1)))) (tOp (gMul) (tVar 1) (tOp (gAdd K) (tC (.int 1)) (tOp (gMod) (tOp (gFdv) (tCall (sp_l_mixed K c_Rail) [] E0 (tCons (tVar 0) (tCons (tC (.int 2)) tNil))) (tC (.int 40))) (tC (.int 9)))))) (gName 8))
  (tSeq (tAsg (tLst tNil) (gName 9))
  (tSeq (tFor (iRng1 (tCons (tVar 2) tNil)) (gName 7) (tSeq (tAsg (tOp (gMul) (tVar 1) (tOp (gAdd K) (tC (.int 1)) (tOp (gMod) (tOp (gFdv) (tCall (sp_l_mixed K c_Rail) [] E0 (tCons (tVar 0) (tCons (tC (.int 3)) tNil))) (tOp (gAdd K) (tC (.int 1)) (tOp (gMul) (tC (.int 5)) (tVar 7)))) (tC (.int 5))))) (gName 10))
  (tDrop (tBM K "list" rAppend (tVar 9) (tCons (tTup (tCons (tVar 10) (tCons (tOp (gAdd K) (tC (.int 1)) (tOp (gMod) (tOp (gFdv) (tCall (sp_l_mixed K c_Rail) [] E0 (tCons (tVar 0) (tCons (tC (.int 3)) tNil))) (tOp (gAdd K) (tC (.int 2)) (tOp (gMul) (tC (.int 3)) (tVar 7)))) (tC (.int 1000)))) tNil))) tNil)))))
  (tRet (tTup (tCons (tVar 8) (tCons (tVar 3) (tCons (tVar 9) (tCons (tVar 4) tNil)))))))))))))))

abbrev s_l_ranks : Stmt := (top 24)
abbrev nm_l_ranks : List Str := ["_law_number", "_law_many", "_law_left", "_law_found", "_law_k"]
theorem sc_l_ranks : FnScope nm_l_ranks ["_law_number", "_law_many"] (defScope s_l_ranks) := ⟨rfl, rfl, rfl, by decide +kernel, rfl, by decide +kernel, by decide +kernel⟩
def t_l_ranks (K : PySem.W.Frag) (c_Rail : Addr) : TS := (tSeq (tAsg (tLstRg (tRg1 (tVar 1))) (gName 2))
  (tSeq (tAsg (tLst tNil) (gName 3))
  (tSeq (tFor (iRng1 (tCons (tVar 1) tNil)) (gName 4) (tDrop (tBM K "list" rAppend (tVar 3) (tCons (tBM K "list" rPopAt (tVar 2) (tCons (tOp (gMod) (tOp (gFdv) (tVar 0) (tOp (gAdd K) (tC (.int 1)) (tOp (gMul) (tC (.int 7)) (tVar 4)))) (tCB (rLen K) (tCons (tVar 2) tNil))) tNil)) tNil))))
  (tRet (tVar 3)))))

abbrev s_l_goals : Stmt := (top 25)
abbrev nm_l_goals : List Str := ["_law_number", "_law_end", "_law_room", "_law_many", "_law_found", "_law_k", "_law_first", "_law_last", "_law_some"]
theorem sc_l_goals : FnScope nm_l_goals ["_law_number", "_law_end", "_law_room", "_law_many"] (defScope s_l_goals) := ⟨rfl, rfl, rfl, by decide +kernel, rfl, by decide +kernel, by decide +kernel⟩
def t_l_goals (K : PySem.W.Frag) (c_Rail : Addr) : TS := (tSeq (tAsg (tLst tNil) (gName 4))
  (tSeq (tFor (iRng1 (tCons (tVar 3) tNil)) (gName 5) (tSeq (tPar 6 7 (tCons (tOp (gMul) (tVar 5) (tVar 2)) (tCons (tOp (gSub) (tVar 1) (tOp (gMul) (tOp (gSub) (tOp (gSub) (tVar 3) (tC (.int 1))) (tVar 5)) (tVar 2))) tNil)))
  (tSeq (tAsg (tLst (tCons (tC .non) (tCons (tVar 6) (tCons (tVar 7) (tCons (tOp (gAdd K) (tVar 6) (tOp (gMod) (tOp (gFdv) (tVar 0) (tOp (gAdd K) (tC (.int 3)) (tOp (gMul) (tC (.int 11)) (tVar 5)))) (tOp (gAdd K) (tOp (gSub) (tVar 7) (tVar 6)) (tC (.int 1))))) tNil))))) (gName 8))
  (tDrop (tBM K "list" rAppend (tVar 4) (tCons (tOp (gIx K) (tVar 8) (tOp (gMod) (tOp (gFdv) (tVar 0) (tOp (gAdd K) (tC (.int 2)) (tOp (gMul) (tC (.int 5)) (tVar 5)))) (tC (.int 4)))) tNil))))))
  (tRet (tVar 4))))

abbrev s_law : Stmt := (top 28)
abbrev nm_law : List Str := ["_law_script", "_law_scale", "_law_end", "_law_room", "_law_cranes", "_law_places", "_law_rail_here", "_law_many", "_law_k", "_law_number", "_law_works", "_law_crane", "_law_goals_here", "_law_by_rank", "_law_handed", "_law_due_here", "_law_again", "_law_found", "_law_one"]
theorem sc_law : FnScope nm_law ["_law_script"] (defScope s_law) := ⟨rfl, rfl, rfl, by decide +kernel, rfl, by decide +kernel, by decide +kernel⟩
def t_law (K : PySem.W.Frag) (c_Rail : Addr) : TS := (tSeq (tAsg (tOp (gIx K) (tLst (tCons (tC (.int 1)) (tCons (tC (.int 1)) (tCons (tC (.int 1000)) (tCons (tC (.int 250000)) tNil))))) (tOp (gMod) (tCall (sp_l_mixed K c_Rail) [] E0 (tCons (tVar 0) (tCons (tC (.int 4)) tNil))) (tC (.int 4)))) (gName 1))
  (tSeq (tAsg (tCall (sp_l_rail K c_Rail) [] E0 (tCons (tVar 0) (tCons (tVar 1) tNil))) (gTup K 4 (gCons (gName 2) (gCons (gName 3) (gCons (gName 4) (gCons (gName 5) gNil))))))
  (tSeq (tAsg (tMake c_Rail (sp_Rail_init K c_Rail) [] E0 (tCons (tVar 2) (tCons (tVar 3) (tCons (tCB (rListOf K) (tCons (tVar 4) tNil)) tNil)))) (gName 6))
  (tSeq (tAsg (tCB (rLen K) (tCons (tVar 5) tNil)) (gName 7))
  (tSeq (tFor (iRng2 (tCons (tC (.int 5)) (tCons (tCB (gMax K) (tCons (tC (.int 6)) (tCons (tCB (gMin K) (tCons (tCB (rLen K) (tCons (tVar 0) tNil)) (tCons (tC (.int 63)) tNil))) tNil))) tNil))) (gName 8) (tSeq (tAsg (tCall (sp_l_mixed K c_Rail) [] E0 (tCons (tVar 0) (tCons (tVar 8) tNil))) (gName 9))
  (tSeq (tAsg (tLc (iRng1 (tCons (tVar 7) tNil)) (gName 11) tYes (tOp (gEq K) (tOp (gMod) (tOp (gFdv) (tVar 9) (tOp (gIx K) (tLst (tCons (tC (.int 1)) (tCons (tC (.int 2)) (tCons (tC (.int 4)) (tCons (tC (.int 8)) (tCons (tC (.int 16)) (tCons (tC (.int 32)) tNil))))))) (tVar 11))) (tC (.int 4))) (tC (.int 1))) [11]) (gName 10))
  (tSeq (tAsg (tCall (sp_l_goals K c_Rail) [] E0 (tCons (tOp (gFdv) (tVar 9) (tC (.int 7))) (tCons (tVar 2) (tCons (tVar 3) (tCons (tVar 7) tNil))))) (gName 12))
  (tSeq (tAsg (tCall (sp_l_ranks K c_Rail) [] E0 (tCons (tOp (gFdv) (tVar 9) (tC (.int 11))) (tCons (tVar 7) tNil))) (gName 13))
  (tSeq (tAsg (tLst (tCons (tCB (rListOf K) (tCons (tVar 5) tNil)) (tCons (tCB (rListOf K) (tCons (tVar 10) tNil)) (tCons (tCB (rListOf K) (tCons (tVar 12) tNil)) (tCons (tCB (rListOf K) (tCons (tVar 13) tNil)) tNil))))) (gName 14))
  (tSeq (tAsg (tCall (sp_l_due K c_Rail) [] E0 (tCons (tTup (tCons (tVar 2) (tCons (tVar 3) (tCons (tVar 4) tNil)))) (tCons (tVar 5) (tCons (tVar 10) (tCons (tVar 12) (tCons (tVar 13) tNil)))))) (gName 15))
  (tSeq (tFor (iRng1 (tCons (tC (.int 2)) tNil)) (gName 16) (tSeq (tAsg (tCall (sp_moved K c_Rail) [] E0 (tCons (tVar 6) (tCons (tOp (gIx K) (tVar 14) (tC (.int 0))) (tCons (tOp (gIx K) (tVar 14) (tC (.int 1))) (tCons (tOp (gIx K) (tVar 14) (tC (.int 2))) (tCons (tOp (gIx K) (tVar 14) (tC (.int 3))) tNil)))))) (gName 17))
  (tSeq (tIfS (tOr (tNot (tB (tCB (rIsi K) (tCons (tVar 17) (tCons (tC (.ty "list")) tNil))))) (tOr (tTest (tOp (gNe K) (tVar 17) (tVar 15))) (tTest (tOp (gNe K) (tLc (iList K (tVar 17)) (gName 18) (tB (tCB (rIsi K) (tCons (tVar 18) (tCons (tC (.ty "bool")) tNil)))) (tVar 18) [18]) (tLst tNil))))) (tRet (tC (.bl false))) tNext)
  (tDrop (tBM K "list" rAppend (tVar 17) (tCons (tC (.int 0)) tNil))))))
  (tSeq (tIfS (tOr (tTest (tOp (gNe K) (tVar 14) (tLst (tCons (tVar 5) (tCons (tVar 10) (tCons (tVar 12) (tCons (tVar 13) tNil))))))) (tNot (tB (tMeth c_Rail "are_apart" (sp_Rail_are_apart K c_Rail) [] E0 (tVar 6) (tCons (tVar 15) tNil))))) (tRet (tC (.bl false))) tNext)
  (tAsg (tVar 15) (gName 5)))))))))))
  (tRet (tC (.bl true))))))))

end L05

set_option Elab.async false
set_option linter.all false
set_option maxRecDepth 100000
set_option maxHeartbeats 4000000
namespace L05
open PySem
open L2 hiding rLen
open Evl Cy TL Wp
/-! picks out of rows that are written out -/
section
variable {α : Type} {a b c d e : α} {l : List α}
theorem at_nat {l : List α} {j : Nat} {x : α} (h : l[j]? = some x) : atI l (j : Int) = some x := atI_nat h
theorem at0 : atI (a :: l) 0 = some a := at_nat (j := 0) rfl
theorem at1 : atI (a :: b :: l) 1 = some b := at_nat (j := 1) rfl
theorem at2 : atI (a :: b :: c :: l) 2 = some c := at_nat (j := 2) rfl
theorem at3 : atI (a :: b :: c :: d :: l) 3 = some d := at_nat (j := 3) rfl
theorem atLast (x : α) (h : l ≠ []) : atI l (-1) = some (l.getD (l.length - 1) x) := by
  have hl : 0 < l.length := List.length_pos_iff.mpr h
  have e : ixN l.length (-1) = some (l.length - 1) := by
    unfold ixN
    rw [if_neg (by omega), if_pos (by omega)]
    congr 1
    omega
  unfold atI
  rw [e, List.getD_eq_getElem?_getD, List.getElem?_eq_getElem (by omega)]
  exact List.getElem?_eq_getElem (by omega)
end
/-! what stands at a cell -/
section
variable {M : Sto} {a C : Addr} {l : List D} {es : List (Key × D)} {fs : List (Str × D)} {k : List (Str × D) → Prop}
theorem dfp (h : M a = some (.ins C fs)) : df M C (.ptr a) k = k fs := by
  show (match M a with
    | some (.ins C' fs) => C' = C ∧ k fs
    | _ => False) = _
  rw [h]
  exact propext ⟨fun h => h.2, fun h => ⟨rfl, h⟩⟩
theorem dlp (h : M a = some (.lst l)) : dl M (.ptr a) = some l := by
  show (match M a with
    | some (.lst l) => some l
    | _ => none) = _
  rw [h]
theorem dqp (h : M a = some (.lst l)) : dq M (.ptr a) = some l := dlp h
theorem ddp (h : M a = some (.dic es)) : dd M (.ptr a) = some es := by
  show (match M a with
    | some (.dic es) => some es
    | some (.dicL _ _ es) => some es
    | _ => none) = _
  rw [h]
theorem ddpL {b : Obj} {kvs : List (Key × V)} (h : M a = some (.dicL b kvs es)) : dd M (.ptr a) = some es := by
  show (match M a with
    | some (.dic es) => some es
    | some (.dicL _ _ es) => some es
    | _ => none) = _
  rw [h]
end
section
variable {M : Sto} {a : Addr} {l : List D} {d : D} {P : D → Sto → Prop} {R : Addr → Sto → Prop} {G : List Sl} {w : WE}
theorem app1p (h : M a = some (.lst l)) : appK1 w G P R (.ptr a) M = w M G (appK2 P (.ptr a)) R := by
  show (match M a with
    | some (.lst _) => w M G (appK2 P (.ptr a)) R
    | _ => False) = _
  rw [h]
theorem app2p (h : M a = some (.lst l)) : appK2 P (.ptr a) d M = (l.length < 100000 ∧ P .non (updM M a (.lst (l ++ [d])))) := by
  show (match M a with
    | some (.lst l) => l.length < 100000 ∧ P .non (updM M a (.lst (l ++ [d])))
    | _ => False) = _
  rw [h]
theorem popp (h : M a = some (.lst l)) : popK P (.ptr a) M = popF P M a l := by
  show (match M a with
    | some (.lst l) => popF P M a l
    | _ => False) = _
  rw [h]
theorem trup {PB : Bool → Sto → Prop} (h : M a = some (.lst l)) : truK PB (.ptr a) M = PB (!l.isEmpty) M := by
  show (match dl M (.ptr a) with
    | some l => PB (!l.isEmpty) M
    | none => False) = _
  rw [dlp h]
end
theorem keepsN {K : PySem.W.Frag} {i : Nat} : Cy.Keeps (bgName (K := K) i).g [i] := keeps1
theorem listp {M : Sto} {a : Addr} {l : List D} {k : List D → Prop} (h : M a = some (.lst l)) : listF k M (.ptr a) = k l := by
  show (match dq M (.ptr a) with
    | some l => k l
    | none => False) = _
  rw [dqp h]
theorem dictDp {M : Sto} {d : D} {es : List (Key × D)} {P : D → Sto → Prop} (h : dd M d = some es) : fDictD P [d] M = newK P M (.dic es) := by
  show (match dd M d with
    | some es => newK P M (.dic es)
    | none => False) = _
  rw [h]
theorem rg_get {lo : Int} {n i : Nat} {d : D} (h : (rngD lo n)[i]? = some d) : i < n ∧ d = .int (lo + (i : Int)) := by
  unfold rngD at h
  rw [List.getElem?_map] at h
  cases q : (List.range n)[i]? with
  | none =>
    rw [q] at h
    cases h
  | some j =>
    rw [q] at h
    obtain ⟨h2, h3⟩ := List.getElem?_eq_some_iff.mp q
    rw [List.getElem_range] at h3
    subst h3
    cases h
    rw [List.length_range] at h2
    exact ⟨h2, rfl⟩
theorem rg_len {lo : Int} {n : Nat} : (rngD lo n).length = n := by
  unfold rngD
  rw [List.length_map, List.length_range]
theorem atMap {α : Type} {f : α → D} {l : List α} {i : Int} (e : α) (h0 : 0 ≤ i) (h1 : i < (l.length : Int)) : atI (l.map f) i = some (f (l.getD i.toNat e)) := by
  obtain ⟨j, rfl⟩ : ∃ j : Nat, i = (j : Int) := ⟨i.toNat, by omega⟩
  refine atI_nat ?_
  rw [Int.toNat_natCast, List.getD_eq_getElem?_getD, List.getElem?_map, List.getElem?_eq_getElem (by omega)]
  rfl
theorem mslp {M : Sto} {a : Addr} {l : List D} {P : D → Sto → Prop} {lo hi : Option Int} (h : M a = some (.lst l)) : mSl P M lo hi (.ptr a) = P (.lst (cutD l lo hi)) M := by
  show (match dl M (.ptr a) with
    | some l => P (.lst (cutD l lo hi)) M
    | none => False) = _
  rw [dlp h]

theorem lk_Rail_end_1 {a0 : D} : List.lookup ("end" : Str) [(("end" : Str), a0)] = some a0 := rfl
theorem pd_Rail_room_1 {a0 v : D} : putD ("room" : Str) v [(("end" : Str), a0)] = [(("end" : Str), a0), (("room" : Str), v)] := rfl
theorem lk_Rail_end_2 {a0 a1 : D} : List.lookup ("end" : Str) [(("end" : Str), a0), (("room" : Str), a1)] = some a0 := rfl
theorem lk_Rail_room_2 {a0 a1 : D} : List.lookup ("room" : Str) [(("end" : Str), a0), (("room" : Str), a1)] = some a1 := rfl
theorem pd_Rail_cranes_2 {a0 a1 v : D} : putD ("cranes" : Str) v [(("end" : Str), a0), (("room" : Str), a1)] = [(("end" : Str), a0), (("room" : Str), a1), (("cranes" : Str), v)] := rfl
theorem lk_Rail_end_3 {a0 a1 a2 : D} : List.lookup ("end" : Str) [(("end" : Str), a0), (("room" : Str), a1), (("cranes" : Str), a2)] = some a0 := rfl
theorem lk_Rail_room_3 {a0 a1 a2 : D} : List.lookup ("room" : Str) [(("end" : Str), a0), (("room" : Str), a1), (("cranes" : Str), a2)] = some a1 := rfl
theorem lk_Rail_cranes_3 {a0 a1 a2 : D} : List.lookup ("cranes" : Str) [(("end" : Str), a0), (("room" : Str), a1), (("cranes" : Str), a2)] = some a2 := rfl
theorem pd_Rail_end_3 {a0 a1 a2 v : D} : putD ("end" : Str) v [(("end" : Str), a0), (("room" : Str), a1), (("cranes" : Str), a2)] = [(("end" : Str), v), (("room" : Str), a1), (("cranes" : Str), a2)] := rfl
theorem pd_Rail_room_3 {a0 a1 a2 v : D} : putD ("room" : Str) v [(("end" : Str), a0), (("room" : Str), a1), (("cranes" : Str), a2)] = [(("end" : Str), a0), (("room" : Str), v), (("cranes" : Str), a2)] := rfl
theorem pd_Rail_cranes_3 {a0 a1 a2 v : D} : putD ("cranes" : Str) v [(("end" : Str), a0), (("room" : Str), a1), (("cranes" : Str), a2)] = [(("end" : Str), a0), (("room" : Str), a1), (("cranes" : Str), v)] := rfl
theorem pd_Rail_end_0 {v : D} : putD ("end" : Str) v [] = [(("end" : Str), v)] := rfl

local macro_rules | `(tactic| walk_at "wp") => `(tactic| try simp only [Wp.v_lcE, Wp.nob_non, Wp.isI_non, Wp.isB_non, Wp.isS_non, Wp.isL_non, Wp.isT_non, Wp.nob_bl, Wp.isI_bl, Wp.isB_bl, Wp.isS_bl, Wp.isL_bl, Wp.isT_bl, Wp.nob_int, Wp.isI_int, Wp.isB_int, Wp.isS_int, Wp.isL_int, Wp.isT_int, Wp.nob_str, Wp.isI_str, Wp.isB_str, Wp.isS_str, Wp.isL_str, Wp.isT_str, Wp.nob_lst, Wp.isI_lst, Wp.isB_lst, Wp.isS_lst, Wp.isL_lst, Wp.isT_lst, Wp.nob_tup, Wp.isI_tup, Wp.isB_tup, Wp.isS_tup, Wp.isL_tup, Wp.isT_tup, Wp.nob_dic, Wp.isI_dic, Wp.isB_dic, Wp.isS_dic, Wp.isL_dic, Wp.isT_dic, Wp.nob_scr, Wp.isI_scr, Wp.isB_scr, Wp.isS_scr, Wp.isL_scr, Wp.isT_scr, Wp.v_isiI_non, Wp.v_isiB_non, Wp.v_isiS_non, Wp.v_isiL_non, Wp.v_isiT_non, Wp.v_isiI_bl, Wp.v_isiB_bl, Wp.v_isiS_bl, Wp.v_isiL_bl, Wp.v_isiT_bl, Wp.v_isiI_int, Wp.v_isiB_int, Wp.v_isiS_int, Wp.v_isiL_int, Wp.v_isiT_int, Wp.v_isiI_str, Wp.v_isiB_str, Wp.v_isiS_str, Wp.v_isiL_str, Wp.v_isiT_str, Wp.v_isiI_lst, Wp.v_isiB_lst, Wp.v_isiS_lst, Wp.v_isiL_lst, Wp.v_isiT_lst, Wp.v_isiI_tup, Wp.v_isiB_tup, Wp.v_isiS_tup, Wp.v_isiL_tup, Wp.v_isiT_tup, Wp.v_isiI_dic, Wp.v_isiB_dic, Wp.v_isiS_dic, Wp.v_isiL_dic, Wp.v_isiT_dic, Wp.v_isiI_scr, Wp.v_isiB_scr, Wp.v_isiS_scr, Wp.v_isiL_scr, Wp.v_isiT_scr, Wp.see_no, Wp.v_var, Wp.v_slK, Wp.v_int, Wp.v_str, Wp.v_bl, Wp.v_non, Wp.v_op, Wp.v_opK1, Wp.v_opK2, Wp.v_atM, Wp.v_add, Wp.v_addK1, Wp.v_addK2, Wp.v_mAddI, Wp.v_mAddS, Wp.v_mAddL, Wp.v_mAddP, Wp.v_catK, Wp.v_dlL, Wp.v_mul, Wp.v_mulK1, Wp.v_mulK2, Wp.v_mMulI, Wp.v_mMulL, Wp.v_repK, Wp.v_addA, Wp.v_addAK1, Wp.v_addAK2, Wp.v_catAK, Wp.v_fSub, Wp.v_fFdv, Wp.v_fMod, Wp.v_fPow, Wp.v_fLtI, Wp.v_fLeI, Wp.v_fLtS, Wp.v_fLeS, Wp.v_fGt, Wp.v_fGe, Wp.v_fEqI, Wp.v_fEqS, Wp.v_fEqL, Wp.v_fEqT, Wp.v_fNeI, Wp.v_fNeS, Wp.v_fNeL, Wp.v_fNeT, Wp.v_fIsN, Wp.v_fIsB, Wp.v_fIsnN, Wp.v_neg, Wp.v_negK, Wp.v_notV, Wp.v_notK, Wp.v_andV, Wp.v_andT, Wp.v_andF, Wp.v_orV, Wp.v_orT, Wp.v_orF, Wp.v_ite, Wp.v_iteT, Wp.v_iteF, Wp.v_chain, Wp.v_chK1, Wp.v_chK2, Wp.v_chK3T, Wp.v_chK3F, Wp.v_tup, Wp.v_tupK, Wp.v_lst, Wp.v_lstK, Wp.v_lstA, Wp.v_lstAK, Wp.v_newK, Wp.v_fld, Wp.v_fldK, Wp.v_fldF, Wp.v_optK, Wp.v_dfO, Wp.v_dget, Wp.v_dgetK1, Wp.v_dgetK2, Wp.v_getK, Wp.v_keyI, Wp.v_keyS, Wp.v_ddD, Wp.v_din, Wp.v_dnin, Wp.v_dinK1, Wp.v_dinK2, Wp.v_hasT, Wp.v_hasF, Wp.v_dnew, Wp.v_ix, Wp.v_ixK1, Wp.v_ixK2, Wp.v_mIxL, Wp.v_mIxT, Wp.v_mIxR, Wp.v_mIxS, Wp.v_mIxP, Wp.v_ixF, Wp.v_chF, Wp.v_sl, Wp.v_slK1, Wp.v_slK2, Wp.v_slK3, Wp.v_mSlS, Wp.v_mSlL, Wp.v_slT, Wp.v_slTK1, Wp.v_slTK2, Wp.v_slTK3, Wp.v_mSlT, Wp.v_b, Wp.v_fLen, Wp.v_lenL, Wp.v_lenT, Wp.v_lenR, Wp.v_lenS, Wp.v_fList, Wp.v_fListA, Wp.v_listFL, Wp.v_listFT, Wp.v_fTuple, Wp.v_tupFL, Wp.v_tupFT, Wp.v_fSum, Wp.v_dqL, Wp.v_fMax2, Wp.v_fMin2, Wp.v_fAbs, Wp.v_fAll, Wp.v_fAny, Wp.v_fIntB, Wp.v_fIntI, Wp.v_fStrI, Wp.v_fStrS, Wp.v_isi, Wp.v_isk, Wp.v_fSortS, Wp.v_fSortD, Wp.v_fSortSA, Wp.v_fSortDA, Wp.v_fDictP, Wp.v_fRepr, Wp.v_call, Wp.v_callD, Wp.v_preC, Wp.v_meth, Wp.v_methK, Wp.v_methF, Wp.v_preK, Wp.v_make, Wp.v_resO, Wp.v_resE, Wp.v_mkO, Wp.v_mkE, Wp.v_nil, Wp.v_cons, Wp.v_consK1, Wp.v_consK2, Wp.v_star, Wp.v_starT, Wp.v_starK2, Wp.v_tb, Wp.v_test, Wp.v_isK, Wp.v_not, Wp.v_noK, Wp.v_and, Wp.v_anT, Wp.v_anF, Wp.v_or, Wp.v_orrT, Wp.v_orrF, Wp.v_yes, Wp.v_tru, Wp.v_truB, Wp.v_truL, Wp.v_no, Wp.v_pa, Wp.v_paK, Wp.v_disp, Wp.v_pnil, Wp.v_pcons, Wp.v_pcK1, Wp.v_pcK2, Wp.v_dispK, Wp.v_lc, Wp.v_lcA, Wp.v_lstP, Wp.v_newP, Wp.v_dc, Wp.v_lenSc, Wp.v_app, Wp.v_pop, Wp.v_popF, Wp.v_join, Wp.v_joinK1, Wp.v_joinK2, Wp.v_lockE, Wp.v_lockEK, Wp.v_iList, Wp.v_iListK, Wp.v_lqL, Wp.v_lqR, Wp.v_iTup, Wp.v_iTupK, Wp.v_iStr, Wp.v_iStrK, Wp.v_iRng1, Wp.v_iRng1K, Wp.v_iRng2, Wp.v_iRng2K, Wp.v_iEnum, Wp.v_iEnumK, Wp.v_enumF, Wp.v_iZip, Wp.v_iZipK, Wp.v_zipF1, Wp.v_zipF2, Wp.v_iKeys, Wp.v_iItems, Wp.v_gName, Wp.v_gTup, Wp.v_gNil, Wp.v_gCons, Wp.v_wgsK, Wp.v_seq, Wp.v_seqN, Wp.v_seqR, Wp.v_seqX, Wp.v_seqB, Wp.v_seqC, Wp.v_exP, Wp.v_asg, Wp.v_asgK, Wp.v_asgG, Wp.v_par, Wp.v_parK, Wp.v_ret, Wp.v_rtK, Wp.v_retF, Wp.v_rtFL, Wp.v_rtFT, Wp.v_rtFI, Wp.v_rtFS, Wp.v_rtFB, Wp.v_rtFN, Wp.v_retN, Wp.v_drop, Wp.v_dropK, Wp.v_next, Wp.v_brk, Wp.v_cont, Wp.v_raise, Wp.v_if, Wp.v_ifT, Wp.v_ifF, Wp.v_fgt, Wp.v_wipe0, Wp.v_wipe1, Wp.v_fldSet, Wp.v_fsK1, Wp.v_fsK2, Wp.v_fsF, Wp.v_dput, Wp.v_dpK1, Wp.v_dpK2, Wp.v_dpK3, Wp.v_dpF, Wp.v_ddel, Wp.v_ddK1, Wp.v_ddK2, Wp.v_ddF, Wp.v_setL, Wp.v_slsK1, Wp.v_slsK2, Wp.v_slsK3, Wp.v_for, Wp.v_forT, Wp.v_loopN, Wp.v_loopC, Wp.v_loopB, Wp.v_loopR, Wp.v_loopX, Wp.v_try, Wp.v_tryN, Wp.v_tryR, Wp.v_tryX, Wp.v_lock, Wp.v_lockN, Wp.v_lockR, Wp.v_lockX, Wp.v_outXR, Wp.v_outXN, Wp.v_outXX, Wp.v_outO, Wp.v_outMR, Wp.v_outMN, Wp.v_outMX, Wp.v_outIN, Wp.v_outIX, Wp.v_lcT, Wp.v_lcBT, Wp.v_lcBF, Wp.v_lcV, Wp.v_scT, Wp.v_dcT, Wp.v_dcE, Wp.v_seeI, Wp.v_seeS, Wp.v_seeB, Wp.v_seeN, Wp.v_seeL, Wp.v_seeT, Wp.v_seeD, Wp.v_seeO, Wp.v_seeR, Wp.v_seeX, Wp.v_noI, Wp.v_noS, Wp.v_noB, Wp.v_noN, Wp.v_noL, Wp.v_noT, Wp.v_noP, Wp.v_noE, Wp.v_end, Wp.v_endN, Wp.v_endC, Wp.v_endR, Wp.v_endX, Wp.v_endB, Wp.v_in, Wp.v_inK1, Wp.v_inK2, Wp.v_mInL, Wp.v_mInT, Wp.v_inF, Wp.v_rev, Wp.v_revL, Wp.v_outLR, List.getElem?_cons_zero, List.getElem?_cons_succ, List.set_cons_zero, List.set_cons_succ, List.map_cons, List.map_nil, List.cons_append, List.nil_append, List.append_nil, List.length_cons, List.length_nil, Nat.reduceAdd, Nat.reduceLeDiff, true_and, and_true, Bool.not_true, Bool.not_false, if_true, if_false, Bool.false_eq_true, lk_Rail_end_1, pd_Rail_room_1, lk_Rail_end_2, lk_Rail_room_2, pd_Rail_cranes_2, lk_Rail_end_3, lk_Rail_room_3, lk_Rail_cranes_3, pd_Rail_end_3, pd_Rail_room_3, pd_Rail_cranes_3, pd_Rail_end_0, at0, at1, at2, at3, List.length_map, decide_true, v_tx, v_txK, v_lv, v_dvK, v_dvF, v_iVals, v_iValsK, v_iValsF, v_cnt, v_cntK1, v_cntK2, v_cntF, v_idx, v_idxK1, v_idxK2, v_idxF, v_iso, v_isoK, v_fMulB, v_fMulT, v_iRng3, v_iRng3K, v_turn, v_turnK, v_turnF, v_iZip3, v_iZip3K, v_zip3F1, v_zip3F2])
local macro_rules | `(tactic| walk_at "wp.kw") => `(tactic| repeat (first | apply kw_tup | apply kw_cons | exact kw_nil | (apply kw_name; decide)))
local macro_rules | `(tactic| walk_at "wp.l") => `(tactic| try simp only [pk, List.set_cons_zero, List.set_cons_succ, List.eraseIdx_cons_zero, List.eraseIdx_cons_succ, List.map_cons, List.map_nil, List.take_succ_cons, List.take_zero, List.take_nil, List.drop_succ_cons, List.drop_zero, List.getElem?_cons_zero, List.getElem?_cons_succ, List.filterMap_cons_some, List.filterMap_cons_none, List.filterMap_nil, id, List.nil_append, List.cons_append] at $(Lean.mkIdent `hS):ident)

def p_settle (K : PySem.W.Frag) {c_Rail : Addr} (Z : CF K c_Rail) : BS K := (bSeq (bSetL (bVar 0) (bVar 3) (bVar 4))
  (bSeq (bSetL (bVar 1) (bVar 3) (bVar 4))
  (bSeq (bFor (biRng2 (bCons (bAdd (bVar 3) (bInt 1)) (bCons (bB sLen (bCons (bVar 0) bNil)) bNil))) (bgName 5) (bSeq (bIf (bTest (bOp oGe (bIx (bVar 0) (bVar 5)) (bAdd (bIx (bVar 0) (bOp oSub (bVar 5) (bInt 1))) (bVar 2)))) (bBrk) bNext)
  (bSetL (bVar 0) (bVar 5) (bAdd (bIx (bVar 0) (bOp oSub (bVar 5) (bInt 1))) (bVar 2)))))
  (bFor (biRng3 (bCons (bOp oSub (bVar 3) (bInt 1)) (bCons (bNeg (bInt 1)) (bCons (bNeg (bInt 1)) bNil)))) (bgName 5) (bSeq (bIf (bTest (bOp oLe (bIx (bVar 1) (bVar 5)) (bOp oSub (bIx (bVar 1) (bAdd (bVar 5) (bInt 1))) (bVar 2)))) (bBrk) bNext)
  (bSetL (bVar 1) (bVar 5) (bOp oSub (bIx (bVar 1) (bAdd (bVar 5) (bInt 1))) (bVar 2))))))))

def p_moved (K : PySem.W.Frag) {c_Rail : Addr} (Z : CF K c_Rail) : BS K := (bSeq (bAsg (bLcA (biZip (bCons (bVar 1) (bCons (bVar 3) bNil))) (bgTup 2 (bgsCons (bgName 6) (bgsCons (bgName 7) bgsNil))) bYes (bIte (bTest (bOp oIs (bVar 7) (bNon))) (bVar 6) (bVar 7)) [6, 7] (by first | exact keepsN | exact keeps_of (by walk_at "wp.kw"))) (bgName 5))
  (bSeq (bIf (bTest (bOp oEq (bVar 5) (bVar 1))) (bRet (bVar 5)) bNext)
  (bSeq (bAsg (bCall (sc_OA (R_lows c_Rail)) (bCons (bVar 0) (bCons (bVar 1) (bCons (bVar 2) bNil)))) (bgName 8))
  (bSeq (bAsg (bCall (sc_OA (R_highs c_Rail)) (bCons (bVar 0) (bCons (bVar 1) (bCons (bVar 2) bNil)))) (bgName 9))
  (bSeq (bFor (biList (bVar 4)) (bgName 10) (bEnd [10] (bSeq (bAsg (bB sMin (bCons (bB sMax (bCons (bIx (bVar 5) (bVar 10)) (bCons (bIx (bVar 8) (bVar 10)) bNil))) (bCons (bIx (bVar 9) (bVar 10)) bNil))) (bgName 6))
  (bDrop (bCall (sc_M (R_settle c_Rail)) (bCons (bVar 8) (bCons (bVar 9) (bCons (bFld Z.cl_Rail (bVar 0) "room" Z.n_Rail_room) (bCons (bVar 10) (bCons (bVar 6) bNil))))))))))
  (bRet (bVar 8)))))))

def oS : Option D → Sl
  | some d => .dat d
  | none => .no
section
variable {K : PySem.W.Frag} {c_Rail : Addr}
theorem sl_row {M : Sto} {p : Addr} {f : Nat → Int} (g : Nat → Int) {n : Nat} {i x : Int} {G : List Sl} {P : Ot → Sto → Prop} (h : M p = some (rowD f n)) (h0 : 0 ≤ i) (h1 : i.toNat < n) (hg : ∀ k, k < n → (if k = i.toNat then x else f k) = g k) (k : P (.nx G) (updM M p (rowD g n))) : slF p (.int x) G P M (.int i) (M p) := by
  rw [h]
  have e : ixN ((sq f n).map D.int).length i = some i.toNat := by
    rw [row_len]
    unfold ixN
    rw [if_pos h0, if_pos (by omega)]
  show (match ixN ((sq f n).map D.int).length i with
    | some j => P (.nx G) (updM M p (.lst (((sq f n).map D.int).set j (.int x))))
    | none => False)
  rw [e]
  show P (.nx G) (updM M p (.lst (((sq f n).map D.int).set i.toNat (.int x))))
  rw [row_set hg]
  exact k
theorem rngC_get {lo c : Int} {n i : Nat} {d : D} (h : (rngC lo c n)[i]? = some d) : i < n ∧ d = .int (lo + (i : Int) * c) := by
  unfold rngC at h
  rw [List.getElem?_map] at h
  cases q : (List.range n)[i]? with
  | none =>
    rw [q] at h
    cases h
  | some j =>
    rw [q] at h
    obtain ⟨h2, h3⟩ := List.getElem?_eq_some_iff.mp q
    rw [List.getElem_range] at h3
    subst h3
    cases h
    rw [List.length_range] at h2
    exact ⟨h2, rfl⟩
theorem rngC_len {lo c : Int} {n : Nat} : (rngC lo c n).length = n := by
  unfold rngC
  rw [List.length_map, List.length_range]
theorem upd_p {M : Sto} {p q : Addr} {a b c : Nd} (h : p ≠ q) : updM (updM (updM M p a) q b) p c = updM (updM M p c) q b := by
  rw [upd_swap (a := q) (b := p) (fun z => h z.symm), upd_twice]
theorem at_p {M : Sto} {p q : Addr} {a b : Nd} (h : p ≠ q) : updM (updM M p a) q b p = some a := by rw [updM_ne h, updM_same]
theorem row_dl {M : Sto} {p : Addr} {f : Nat → Int} {n : Nat} (h : M p = some (rowD f n)) : dl M (.ptr p) = some ((sq f n).map D.int) := dlp h
theorem row_ext {f g : Nat → Int} {n : Nat} (h : ∀ k, k < n → f k = g k) : rowD f n = rowD g n := by
  show Nd.lst ((sq f n).map D.int) = Nd.lst ((sq g n).map D.int)
  rw [sq_ext h]
theorem row_lenp {M : Sto} {a : Addr} {f : Nat → Int} {n : Nat} {P : D → Sto → Prop} (h : M a = some (rowD f n)) : lenF P M (.ptr a) = P (.int (n : Int)) M := by
  show (match dl M (.ptr a) with
    | some l => P (.int (l.length : Int)) M
    | none => False) = _
  rw [dlp h]
  show P (.int (((sq f n).map D.int).length : Int)) M = _
  rw [row_len]
theorem row_ix {f : Nat → Int} {n m : Nat} {k : Int} (hk : k = ((m : Nat) : Int)) (h : m < n) : atI ((sq f n).map D.int) k = some (.int (f m)) := by
  rw [hk]
  exact atI_nat (row_at h)
theorem dn_lt {r : Int} {S : PS} {c : Nat} {x : Int} {j k : Nat} (h : k < j) : dnH r S c x j k = highE r S k := by
  unfold dnH
  rw [if_neg (by omega)]
theorem dn_ge {r : Int} {S : PS} {c : Nat} {x : Int} {j k : Nat} (h : j ≤ k) : dnH r S c x j k = highE r (S.set c (x, x)) k := by
  unfold dnH
  rw [if_pos h]
theorem up_lt {r : Int} {S : PS} {c : Nat} {x : Int} {j k : Nat} (h : k < j) : upL r S c x j k = lowE r (S.set c (x, x)) k := by
  unfold upL
  rw [if_pos h]
theorem up_ge {r : Int} {S : PS} {c : Nat} {x : Int} {j k : Nat} (h : j ≤ k) : upL r S c x j k = lowE r S k := by
  unfold upL
  rw [if_neg (by omega)]
theorem rd_set2 {M : Sto} {p q : Addr} {r x : Int} {S : PS} {c : Nat} {a : Option D} (hpq : p ≠ q) (hc : c < S.length) (h6 : S.length ≤ 6) (hx : lowE r S c ≤ x) (hy : x ≤ highE r S c) : ((bFor (biRng3 (bCons (bOp oSub (bVar 3) (bInt 1)) (bCons (bNeg (bInt 1)) (bCons (bNeg (bInt 1)) bNil)))) (bgName 5) (bSeq (bIf (bTest (bOp oLe (bIx (bVar 1) (bVar 5)) (bOp oSub (bIx (bVar 1) (bAdd (bVar 5) (bInt 1))) (bVar 2)))) (bBrk) bNext)
  (bSetL (bVar 1) (bVar 5) (bOp oSub (bIx (bVar 1) (bAdd (bVar 5) (bInt 1))) (bVar 2))))) : BS K).w (updM (updM M p (rowD (lowE r (S.set c (x, x))) S.length)) q (rowD (dnH r S c x c) S.length)) [.dat (.ptr p), .dat (.ptr q), .dat (.int r), .dat (.int (c : Int)), .dat (.int x), oS a]
    (outM fun o M' => o = .ok .non ∧ M' = updM (updM M p (rowD (lowE r (S.set c (x, x))) S.length)) q (rowD (highE r (S.set c (x, x))) S.length)) := by
  walk_at "wp"
  refine ⟨c, by have := rgc_down (a := (c : Int) - 1) (b := -1) (by decide) (by omega) (by omega); rw [show ((c : Int) - 1 - -1).toNat = c from by omega] at this; exact this, ?_⟩
  refine ⟨fun i M' G => ∃ a, G = [.dat (.ptr p), .dat (.ptr q), .dat (.int r), .dat (.int (c : Int)), .dat (.int x), oS a] ∧ M' = updM (updM M p (rowD (lowE r (S.set c (x, x))) S.length)) q (rowD (dnH r S c x (c - i)) S.length), ⟨a, rfl, rfl⟩, fun i M' G d hd hI => ?_, fun M' G hI => ?_⟩
  · obtain ⟨a, rfl, rfl⟩ := hI
    obtain ⟨hi, rfl⟩ := rngC_get hd
    obtain ⟨j, hj⟩ : ∃ j, j = c - 1 - i := ⟨_, rfl⟩
    have e1 : (c : Int) - 1 + (i : Int) * -1 = (j : Int) := by omega
    have e2 : c - i = j + 1 := by omega
    rw [e1, e2]
    refine ⟨trivial, ?_⟩
    walk_at "wp"
    rw [row_dl updM_same]
    walk_at "wp"
    rw [row_ix (k := (j : Int)) (m := j) rfl (by omega), dn_lt (Nat.lt_succ_self j)]
    walk_at "wp"
    rw [row_dl updM_same]
    walk_at "wp"
    rw [row_ix (k := (j : Int) + 1) (m := j + 1) (by omega) (by omega), dn_ge (Nat.le_refl _)]
    walk_at "wp"
    refine if_of (fun h => ?_) fun h => ?_
    · have h := of_decide_eq_true h
      walk_at "wp"
      rw [row_ext (f := dnH r S c x (j + 1)) (g := highE r (S.set c (x, x))) fun k hk => ?_]
      by_cases z : k < j + 1
      · rw [dn_lt z]
        have := high_rest hc hy (j := j) (by omega) h (j - k) (by omega)
        rw [show j - (j - k) = k from by omega] at this
        exact this.symm
      · exact dn_ge (by omega)
    · have h := of_decide_eq_false h
      walk_at "wp"
      rw [row_dl updM_same]
      walk_at "wp"
      rw [row_ix (k := (j : Int) + 1) (m := j + 1) (by omega) (by omega), dn_ge (Nat.le_refl _)]
      walk_at "wp"
      refine sl_row (dnH r S c x j) updM_same (by omega) (by omega) (fun k hk => ?_) ?_
      · by_cases z : k = (j : Int).toNat
        · rw [if_pos z]
          have e3 : k = j := by omega
          subst e3
          rw [dn_ge (Nat.le_refl _), high_next hc hy (k := k) (by omega)]
          omega
        · rw [if_neg z]
          by_cases y : k < j
          · rw [dn_lt y, dn_lt (by omega)]
          · rw [dn_ge (by omega), dn_ge (by omega)]
      · walk_at "wp"
        refine ⟨some _, rfl, ?_⟩
        rw [upd_twice, show c - (i + 1) = j from by omega]
  · obtain ⟨a, rfl, rfl⟩ := hI
    refine ⟨trivial, ?_⟩
    walk_at "wp"
    rw [rngC_len, Nat.sub_self, row_ext (f := dnH r S c x 0) (g := highE r (S.set c (x, x))) fun k hk => dn_ge (Nat.zero_le k)]
theorem rd_settle (Z : CF K c_Rail) {ds : List D} {M : Sto} {P : Res → Sto → Prop} (h : R_settle c_Rail ds M P) : (p_settle K Z).w M (args nm_settle.length ds) (outM P) := by
  obtain ⟨p, q, r, S, c, x, rfl, hpq, hMp, hMq, hc, h6, hx, hy, rfl⟩ := h
  show (p_settle K Z).w M [.dat (.ptr p), .dat (.ptr q), .dat (.int r), .dat (.int (c : Int)), .dat (.int x), .no] _
  unfold p_settle
  walk_at "wp"
  refine sl_row (upL r S c x (c + 1)) hMp (by omega) (by omega) (fun k hk => ?_) ?_
  · by_cases z : k = (c : Int).toNat
    · rw [if_pos z, up_lt (by omega), show k = c from by omega, low_at hc hx]
    · rw [if_neg z]
      by_cases y : k < c
      · rw [up_lt (by omega), lowE_set_lt k y]
      · rw [up_ge (by omega)]
  walk_at "wp"
  refine sl_row (dnH r S c x c) (f := highE r S) (n := S.length) (by rw [updM_ne (fun z => hpq z.symm)]; exact hMq) (by omega) (by omega) (fun k hk => ?_) ?_
  · by_cases z : k = (c : Int).toNat
    · rw [if_pos z, dn_ge (by omega), show k = c from by omega, high_at hc hy]
    · rw [if_neg z]
      by_cases y : k < c
      · rw [dn_lt (by omega)]
      · rw [dn_ge (by omega), high_gt' hc hy (S.length - 1 - k) k (by omega) (by omega)]
  walk_at "wp"
  rw [row_lenp (at_p hpq)]
  walk_at "wp"
  refine ⟨by omega, fun i M' G => ∃ a, G = [.dat (.ptr p), .dat (.ptr q), .dat (.int r), .dat (.int (c : Int)), .dat (.int x), oS a] ∧ M' = updM (updM M p (rowD (upL r S c x (c + 1 + i)) S.length)) q (rowD (dnH r S c x c) S.length), ⟨none, rfl, rfl⟩, fun i M' G d hd hI => ?_, fun M' G hI => ?_⟩
  · obtain ⟨a, rfl, rfl⟩ := hI
    obtain ⟨hi, rfl⟩ := rg_get hd
    obtain ⟨j, hj⟩ : ∃ j, j = c + 1 + i := ⟨_, rfl⟩
    have e1 : (c : Int) + 1 + (i : Int) = (j : Int) := by omega
    have hjn : j < S.length := by omega
    rw [e1, ← hj]
    refine ⟨trivial, ?_⟩
    walk_at "wp"
    rw [row_dl (at_p hpq)]
    walk_at "wp"
    rw [row_ix (k := (j : Int)) (m := j) rfl hjn, up_ge (Nat.le_refl _)]
    walk_at "wp"
    rw [row_dl (at_p hpq)]
    walk_at "wp"
    rw [row_ix (k := (j : Int) - 1) (m := j - 1) (by omega) (by omega), up_lt (by omega)]
    walk_at "wp"
    refine if_of (fun h => ?_) fun h => ?_
    · have h := of_decide_eq_true h
      walk_at "wp"
      rw [row_ext (f := upL r S c x j) (g := lowE r (S.set c (x, x))) fun k hk => ?_]
      · exact rd_set2 (M := M) (a := some (.int (j : Int))) hpq hc h6 hx hy
      by_cases z : k < j
      · exact up_lt z
      · rw [up_ge (by omega)]
        have := low_rest hc hx (j := j) (by omega) h (k - j)
        rw [show j + (k - j) = k from by omega] at this
        exact this.symm
    · have h := of_decide_eq_false h
      walk_at "wp"
      rw [row_dl (at_p hpq)]
      walk_at "wp"
      rw [row_ix (k := (j : Int) - 1) (m := j - 1) (by omega) (by omega), up_lt (by omega)]
      walk_at "wp"
      refine sl_row (upL r S c x (j + 1)) (at_p hpq) (by omega) (by omega) (fun k hk => ?_) ?_
      · by_cases z : k = (j : Int).toNat
        · rw [if_pos z]
          have e3 : k = j := by omega
          subst e3
          rw [up_lt (Nat.lt_succ_self k), low_next hc hx (k := k) (by omega)]
          omega
        · rw [if_neg z]
          by_cases y : k < j
          · rw [up_lt y, up_lt (by omega)]
          · rw [up_ge (by omega), up_ge (by omega)]
      · walk_at "wp"
        refine ⟨some _, rfl, ?_⟩
        rw [upd_p hpq, show c + 1 + (i + 1) = j + 1 from by omega]
  · obtain ⟨a, rfl, rfl⟩ := hI
    refine ⟨trivial, ?_⟩
    walk_at "wp"
    rw [rg_len, row_ext (f := upL r S c x (c + 1 + ((S.length : Int) - ((c : Int) + 1)).toNat)) (g := lowE r (S.set c (x, x))) fun k hk => up_lt (by omega)]
    exact rd_set2 (M := M) (a := a) hpq hc h6 hx hy
end

/-- all the ranks are there -/
def Cover (n : Nat) (rk : List Nat) : Prop := ∀ i, i < n → i ∈ rk
section
variable {e r : Int} {cr : List (Int × Int)} {ps : List Int} {ws : List Bool} {gs : List (Option Int)} {rk : List Nat} (h : Hand e r cr ps ws gs rk)
include h
theorem Hand.giv : Giv e r cr ps ws := ⟨h.ok, h.ap, h.lp, h.lw⟩
theorem Hand.spn : Spn r e ps.length (sides e cr ps ws) := h.giv.spn
theorem Hand.hrn : ∀ c ∈ rk, c < ps.length := fun c hc => by
  rw [h.lp]
  exact h.hr c hc
theorem Hand.at (k : Nat) (hk : k ≤ rk.length) : Spn r e ps.length (fst r ps gs rk (sides e cr ps ws) k) := fst_spn h.spn ps gs h.hrn k hk
theorem Hand.fix (hc : Cover cr.length rk) {i : Nat} (hi : i < ps.length) : pA (due e r cr ps ws gs rk) i = pB (due e r cr ps ws gs rk) i := by
  obtain ⟨j, hj, e2⟩ := List.getElem_of_mem (hc i (by rw [← h.lp]; exact hi))
  have := fst_fix h.spn ps gs h.hrn rk.length (Nat.le_refl _) j hj
  rw [List.getD_eq_getElem?_getD, List.getElem?_eq_getElem hj, Option.getD_some, e2] at this
  exact this
theorem Hand.row (hc : Cover cr.length rk) : loD (due e r cr ps ws gs rk) = (sq (lowE r (due e r cr ps ws gs rk)) ps.length).map D.int := by
  have hS := h.at rk.length (Nat.le_refl _)
  have hl : (due e r cr ps ws gs rk).length = ps.length := hS.len
  unfold loD sq
  rw [List.map_map]
  apply List.ext_getElem
  · rw [List.length_map, List.length_map, List.length_range, hl]
  · intro i h1 h2
    rw [List.length_map, hl] at h1
    rw [List.getElem_map, List.getElem_map, List.getElem_range]
    show D.int ((due e r cr ps ws gs rk)[i]).1 = D.int (lowE r (due e r cr ps ws gs rk) i)
    have h3 : lowE r (due e r cr ps ws gs rk) i = pA (due e r cr ps ws gs rk) i := fixed_low hS h1 (h.fix hc h1)
    rw [h3]
    unfold pA
    rw [List.getD_eq_getElem?_getD, List.getElem?_eq_getElem (by rw [hl]; exact h1)]
    rfl
/-- all want to stay -/
theorem Hand.stays (hw : ∀ i, i < ps.length → wish ps gs i = ps.getD i 0) : ∀ k, k ≤ rk.length → (∀ i, i < ps.length → pA (fst r ps gs rk (sides e cr ps ws) k) i ≤ ps.getD i 0 ∧ ps.getD i 0 ≤ pB (fst r ps gs rk (sides e cr ps ws) k) i) ∧ ∀ j, j < k → pA (fst r ps gs rk (sides e cr ps ws) k) (rk.getD j 0) = ps.getD (rk.getD j 0) 0
  | 0, _ => ⟨fun i hi => h.giv.stay (by rw [h.spn.len]; exact hi), fun j hj => absurd hj (Nat.not_lt_zero j)⟩
  | k + 1, hk => by
    obtain ⟨ih1, ih2⟩ := Hand.stays hw k (by omega)
    have hS := h.at k (by omega)
    have hcr : rk.getD k 0 < ps.length := h.hrn _ (getD_in 0 rk k (by omega))
    have hp : plc r ps gs (fst r ps gs rk (sides e cr ps ws) k) (rk.getD k 0) = ps.getD (rk.getD k 0) 0 := by
      have a := row_low (r := r) (S := fst r ps gs rk (sides e cr ps ws) k) (f := fun i => ps.getD i 0) (n := ps.length) (fun i hi => (ih1 i hi).1) (fun i hi => h.ap.gap i hi) _ hcr
      have b := row_high (r := r) (S := fst r ps gs rk (sides e cr ps ws) k) (f := fun i => ps.getD i 0) (fun i hi => (ih1 i (by rw [← hS.len]; exact hi)).2) (fun i hi => h.ap.gap i (by rw [← hS.len]; exact hi)) (i := rk.getD k 0) (by rw [hS.len]; exact hcr)
      unfold plc
      rw [hw _ hcr]
      omega
    show (∀ i, i < ps.length → pA (stp r ps gs (fst r ps gs rk (sides e cr ps ws) k) (rk.getD k 0)) i ≤ ps.getD i 0 ∧ ps.getD i 0 ≤ pB (stp r ps gs (fst r ps gs rk (sides e cr ps ws) k) (rk.getD k 0)) i) ∧ ∀ j, j < k + 1 → pA (stp r ps gs (fst r ps gs rk (sides e cr ps ws) k) (rk.getD k 0)) (rk.getD j 0) = ps.getD (rk.getD j 0) 0
    unfold stp
    rw [hp]
    have hl := hS.len
    generalize fst r ps gs rk (sides e cr ps ws) k = S at ih1 ih2 hl
    generalize hcq : rk.getD k 0 = c at hcr
    refine ⟨fun i hi => ?_, fun j hj => ?_⟩
    · by_cases z : c = i
      · subst z
        rw [pA_set (by omega), pB_set (by omega)]
        exact ⟨Int.le_refl _, Int.le_refl _⟩
      · rw [pA_set_ne z, pB_set_ne z]
        exact ih1 i hi
    · by_cases z : c = rk.getD j 0
      · rw [← z, pA_set (by omega)]
      · rw [pA_set_ne z]
        by_cases y : j < k
        · exact ih2 j y
        · exact absurd (by rw [← hcq, show j = k from by omega]) z
end
theorem eqA_ints : ∀ (l m : List Int), PyData.eqvAll (toPs (l.map D.int)) (toPs (m.map D.int)) = true → l = m
  | [], [], _ => rfl
  | [], b :: m, h => by simp only [List.map_cons, List.map_nil, toPs, PyData.eqvAll] at h; cases h
  | a :: l, [], h => by simp only [List.map_cons, List.map_nil, toPs, PyData.eqvAll] at h; cases h
  | a :: l, b :: m, h => by
    simp only [List.map_cons, toPs, PyData.eqvAll, Bool.and_eq_true] at h
    have h2 := eqA_ints l m h.2
    have h1 := h.1
    simp only [toP, PyData.eqv] at h1
    rw [h2, show a = b from by simpa using h1]
theorem eq_ints {l m : List Int} (h : eqD (.lst (l.map D.int)) (.lst (m.map D.int)) = true) : l = m := by
  unfold eqD at h
  simp only [toP, PyData.eqv] at h
  exact eqA_ints l m h

section
variable {K : PySem.W.Frag} {c_Rail : Addr}
theorem zip_get {ps : List Int} {gs : List (Option Int)} {d : D} (h : d ∈ zipD (ps.map D.int) (gs.map goalD)) : ∃ (a : Int) (g : Option Int), d = .tup [.int a, goalD g] := by
  unfold zipD at h
  obtain ⟨i, hi, rfl⟩ := List.mem_map.mp h
  have hi := List.mem_range.mp hi
  rw [List.length_map, List.length_map] at hi
  refine ⟨ps.getD i 0, gs.getD i none, ?_⟩
  rw [getD_mapD D.int 0 _ _ (by omega), getD_mapD goalD none _ _ (by omega)]
def wishD : D → D
  | .tup [a, .non] => a
  | .tup [_, b] => b
  | _ => .non
theorem wish_row {ps : List Int} {gs : List (Option Int)} (h : gs.length = ps.length) : (zipD (ps.map D.int) (gs.map goalD)).map wishD = (sq (wish ps gs) ps.length).map D.int := by
  unfold zipD sq
  rw [List.length_map, List.length_map, h, Nat.min_self, List.map_map, List.map_map]
  refine List.map_congr_left fun i hi => ?_
  have hi := List.mem_range.mp hi
  show wishD (.tup [(ps.map D.int).getD i .non, (gs.map goalD).getD i .non]) = D.int (wish ps gs i)
  rw [getD_mapD D.int 0 _ _ hi, getD_mapD goalD none _ _ (by omega)]
  unfold wish
  cases gs.getD i none <;> rfl
theorem see_row {M : Sto} {a : Addr} {f : Nat → Int} {n : Nat} (h : M a = some (rowD f n)) : Wp.see M (.ptr a) = .lst ((sq f n).map D.int) := by
  show Wp.seeN (Wp.seeD 8 M) a (M a) = _
  rw [h]
  show D.lst (((sq f n).map D.int).map (Wp.seeD 8 M)) = _
  rw [List.map_map]
  rfl
theorem call_OA {T : List D → List D → Prop} {P : D → Sto → Prop} {ds : List D} {M : Sto} (l : List D) (h : T (ds.map (Wp.see M)) l) (hf : flA l = true ∨ ds.map (Wp.see M) = ds) (k : ∀ p, M p = none → P (.ptr p) (updM M p (.lst l))) : callOAK T P ds M := ⟨l, h, hf, k⟩
theorem mem_nat {rk : List Nat} {i : Nat} {d : D} (h : (rk.map nat)[i]? = some d) : i < rk.length ∧ d = .int ((rk.getD i 0 : Nat) : Int) := by
  rw [List.getElem?_map] at h
  cases q : rk[i]? with
  | none =>
    rw [q] at h
    cases h
  | some c =>
    rw [q] at h
    cases h
    refine ⟨(List.getElem?_eq_some_iff.mp q).1, ?_⟩
    rw [List.getD_eq_getElem?_getD, q]
    rfl
theorem rd_moved (Z : CF K c_Rail) {ds l : List D} (h : R_moved c_Rail ds l) : (p_moved K Z).w noM (args nm_moved.length ds) (outO l) := by
  obtain ⟨e, r, cr, ps, ws, gs, rk, rfl, hh, rfl⟩ := h
  have hcov : Cover cr.length rk := hh.cov
  have c2 := hh.ok.c2
  have lp := hh.lp
  have lg := hh.lg
  show (p_moved K Z).w noM [.dat (.obj c_Rail (railFs e r cr)), .dat (.lst (ps.map D.int)), .dat (wsD ws), .dat (gsD gs), .dat (.lst (rk.map nat)), .no, .no, .no, .no, .no, .no] _
  unfold p_moved gsD wsD
  walk_at "wp"
  refine lc_map wishD rfl (by unfold zipD; rw [List.length_map, List.length_range, List.length_map]; omega) ⟨trivial, trivial⟩ (fun d hd Q Q0 => ?_) ?_
  · obtain ⟨a, g, rfl⟩ := zip_get hd
    cases g with
    | none =>
      walk_at "wp"
      exact Q0
    | some b =>
      walk_at "wp"
      exact Q0
  rw [wish_row (by omega)]
  walk_at "wp"
  intro w hw
  rw [see_row (f := wish ps gs) (n := ps.length) updM_same]
  walk_at "wp"
  refine ⟨ok_eq (n := 1) (ok_ints _) (by decide), ok_eq (n := 1) (ok_ints _) (by decide), ?_⟩
  refine if_of (fun h => ?_) fun h => ?_
  · have h := eq_ints h
    walk_at "wp"
    have hw2 : ∀ i, i < ps.length → wish ps gs i = ps.getD i 0 := fun i hi => by
      have := sq_getD (wish ps gs) ps.length 0 hi
      rw [h] at this
      exact this.symm
    obtain ⟨h1, h2⟩ := hh.stays hw2 rk.length (Nat.le_refl _)
    rw [hh.row hcov, updM_same]
    rw [sq_ext (f := wish ps gs) (g := lowE r (due e r cr ps ws gs rk)) fun i hi => ?_]
    have e9 : lowE r (due e r cr ps ws gs rk) i = pA (due e r cr ps ws gs rk) i := fixed_low (hh.at rk.length (Nat.le_refl _)) hi (hh.fix hcov hi)
    rw [e9, hw2 i hi]
    obtain ⟨j, hj, e2⟩ := List.getElem_of_mem (hcov i (by omega))
    have h3 := h2 j hj
    rw [List.getD_eq_getElem?_getD, List.getElem?_eq_getElem hj, Option.getD_some, e2] at h3
    exact h3.symm
  · walk_at "wp"
    clear h
    refine call_OA _ ⟨e, r, cr, ps, ws, rfl, hh.giv, rfl⟩ (.inr rfl) fun p hp => ?_
    walk_at "wp"
    refine call_OA _ ⟨e, r, cr, ps, ws, rfl, hh.giv, rfl⟩ (.inr rfl) fun q hq => ?_
    walk_at "wp"
    have hwp : w ≠ p := fun z => by
      subst z
      rw [updM_same] at hp
      cases hp
    have hpq : p ≠ q := fun z => by
      subst z
      rw [updM_same] at hq
      cases hq
    have hwq : w ≠ q := fun z => by
      subst z
      rw [updM_ne hwp, updM_same] at hq
      cases hq
    refine ⟨fun i M G => ∃ a, G = [.dat (.obj c_Rail (railFs e r cr)), .dat (.lst (ps.map D.int)), .dat (.lst (ws.map D.bl)), .dat (.lst (gs.map goalD)), .dat (.lst (rk.map nat)), .dat (.ptr w), oS a, .no, .dat (.ptr p), .dat (.ptr q), .no] ∧ M = updM (updM (updM noM w (rowD (wish ps gs) ps.length)) p (rowD (lowE r (fst r ps gs rk (sides e cr ps ws) i)) ps.length)) q (rowD (highE r (fst r ps gs rk (sides e cr ps ws) i)) ps.length), ⟨none, rfl, rfl⟩, fun i M G d hd hI => ?_, fun M G hI => ?_⟩
    · obtain ⟨a, rfl, rfl⟩ := hI
      obtain ⟨hi, rfl⟩ := mem_nat hd
      have hS := hh.at i (by omega)
      have hc : rk.getD i 0 < ps.length := hh.hrn _ (getD_in 0 rk i hi)
      have hin := plc_in hS ps gs hc
      have hnext : fst r ps gs rk (sides e cr ps ws) (i + 1) = (fst r ps gs rk (sides e cr ps ws) i).set (rk.getD i 0) (plc r ps gs (fst r ps gs rk (sides e cr ps ws) i) (rk.getD i 0), plc r ps gs (fst r ps gs rk (sides e cr ps ws) i) (rk.getD i 0)) := rfl
      have hl := hS.len
      generalize hce : rk.getD i 0 = c at hc hin hnext
      unfold plc at hin hnext
      generalize hSe : fst r ps gs rk (sides e cr ps ws) i = S at hin hl hnext
      refine ⟨trivial, ?_⟩
      walk_at "wp"
      rw [row_dl (f := wish ps gs) (n := ps.length) (by rw [updM_ne hwq, updM_ne hwp, updM_same])]
      walk_at "wp"
      rw [row_ix (k := (c : Int)) (m := c) rfl hc]
      walk_at "wp"
      rw [row_dl (at_p hpq)]
      walk_at "wp"
      rw [row_ix (k := (c : Int)) (m := c) rfl hc]
      walk_at "wp"
      rw [row_dl updM_same]
      walk_at "wp"
      rw [row_ix (k := (c : Int)) (m := c) rfl hc]
      walk_at "wp"
      rw [show List.lookup ("room" : Str) (railFs e r cr) = some (.int r) from rfl]
      walk_at "wp"
      refine call_M ⟨p, q, r, S, c, min (max (wish ps gs c) (lowE r S c)) (highE r S c), rfl, hpq, by rw [hl]; exact at_p hpq, by rw [hl]; exact updM_same, by omega, by omega, hin.1, hin.2, rfl⟩ fun o M' ho => ?_
      obtain ⟨rfl, rfl⟩ := ho
      walk_at "wp"
      refine ⟨some _, rfl, ?_⟩
      rw [hnext, hl, upd_p hpq, upd_twice]
    · obtain ⟨a, rfl, rfl⟩ := hI
      refine ⟨trivial, ?_⟩
      walk_at "wp"
      rw [hh.row hcov, at_p hpq]
      rfl
end

end L05

set_option Elab.async false
set_option linter.all false
set_option maxRecDepth 100000
set_option maxHeartbeats 4000000
namespace L05
open PySem
open L2 hiding rLen
open Evl Cy TL
local macro_rules | `(tactic| walk_at "cy.side") => `(tactic| first | assumption | omega | decide | (simp only [List.length_map, List.length_cons, List.length_nil, List.length_append]; omega) | rfl)
local macro_rules | `(tactic| walk_at "cy.op") => `(tactic| first
  | exact d_addI | exact d_subI | exact d_ltI | exact d_leI | exact d_gtI | exact d_geI | exact d_eqI | exact d_neI | exact d_eqS | exact d_neS | exact d_leS | exact d_inC | exact d_niC
  | exact d_isN | exact d_niN | exact d_isB | exact d_pow9 | exact d_pow12 | exact d_pow6
  | exact d_fdv (by first | decide | omega) (by first | decide | omega) | exact d_mod (by first | decide | omega) | exact d_pow ⟨by decide, by decide, by decide⟩
  | exact d_mulI (Or.inl (by first | decide | omega)) | exact d_mulI (Or.inr (by first | decide | omega))
  | exact d_addS (by walk_at "cy.side") | exact d_ixL (by walk_at "cy.side") | exact d_ixT (by walk_at "cy.side") | exact d_ixR (by walk_at "cy.side") | exact d_ixS (by walk_at "cy.side") (by walk_at "cy.side")
  | exact d_ixLn (by walk_at "cy.side") (by walk_at "cy.side") | exact d_ixTn (by walk_at "cy.side") (by walk_at "cy.side") | exact d_ixRn (by walk_at "cy.side") (by walk_at "cy.side")
  | exact d_eqD (by walk_at "cy.side") (by walk_at "cy.side") | exact d_neD (by walk_at "cy.side") (by walk_at "cy.side"))
local macro_rules | `(tactic| walk_at "cy.n") => `(tactic| first
  | exact n_max2 | exact n_min2 | exact n_abs | exact n_lenL | exact n_lenT | exact n_lenR | exact n_lenS (by walk_at "cy.side") | exact n_reprB | exact n_reprN | exact n_reprI (by walk_at "cy.side") | exact n_all | exact n_any
  | exact n_strI (by walk_at "cy.side") | exact n_intS (by walk_at "cy.side") (by walk_at "cy.side"))
local macro_rules | `(tactic| walk_at "cy.s") => `(tactic| first
  | exact s_nil
  | (apply s_cons; walk_at "cy.e"; walk_at "cy.s"))
local macro_rules | `(tactic| walk_at "cy.p") => `(tactic| first
  | exact p_none
  | (apply p_some; walk_at "cy.e"))
local macro_rules | `(tactic| walk_at "cy.e") => `(tactic| first
  | assumption
  | exact e_var rfl
  | exact e_int | exact e_none | exact e_bl | exact e_str | exact e_dnew | exact e_disp1
  | (apply e_op; walk_at "cy.e"; walk_at "cy.e"; walk_at "cy.op")
  | (apply e_isi; walk_at "cy.e"; rfl; decide +kernel)
  | (apply e_cb; walk_at "cy.s"; walk_at "cy.n")
  | (apply e_chain; walk_at "cy.e"; walk_at "cy.e"; walk_at "cy.op"; (intro _; walk_at "cy.e"); (intro _; walk_at "cy.op"))
  | (apply e_tup; walk_at "cy.s"; walk_at "cy.side")
  | (apply e_share; apply o_lst; walk_at "cy.s"; walk_at "cy.side")
  | (apply e_slS; walk_at "cy.e"; walk_at "cy.p"; walk_at "cy.p"; walk_at "cy.side")
  | (apply e_share; apply o_sl; walk_at "cy.e"; walk_at "cy.p"; walk_at "cy.p")
  | (apply e_un; walk_at "cy.e"; exact op1_neg)
  | (apply e_notV; walk_at "cy.e")
  | (apply e_andV; walk_at "cy.e"; (intro _; walk_at "cy.e"))
  | (apply e_orV; walk_at "cy.e"; (intro _; walk_at "cy.e"))
  | (apply e_call; walk_at "cy.s"; walk_at "cy.side")
  | (apply e_share; apply o_call; walk_at "cy.s"; walk_at "cy.side"))
local macro_rules | `(tactic| walk_at "cy.t") => `(tactic| first
  | assumption
  | exact t_yes
  | (apply t_test; walk_at "cy.e")
  | (apply t_B; walk_at "cy.e")
  | (apply t_not; walk_at "cy.t")
  | (apply t_and; walk_at "cy.t"; (intro _; walk_at "cy.t"))
  | (apply t_or; walk_at "cy.t"; (intro _; walk_at "cy.t")))
local macro_rules | `(tactic| walk_at "cy.wk") => `(tactic| repeat (first | exact Wk.nil | apply Wk.keep | apply Wk.drop))

section
variable {c_Rail : Addr}
theorem rd_is_among (K : PySem.W.Frag) (Z : CF K c_Rail) {ds : List D} {d : D} (h : R_is_among ds d) : StD K (t_is_among K c_Rail) (args nm_is_among.length ds) (.rt d) := by
  obtain ⟨x, a, b, rfl, hn, rfl⟩ := h
  unfold t_is_among
  have e1 : EvD K (tCB (rIsi K) (tCons (tVar 0) (tCons (tC (.ty "int")) tNil))) (args nm_is_among.length [x, .int a, .int b]) (.bl (isI x)) := e_isI (e_var rfl) hn
  have e2 : EvD K (tCB (rIsi K) (tCons (tVar 0) (tCons (tC (.ty "bool")) tNil))) (args nm_is_among.length [x, .int a, .int b]) (.bl (isB x)) := e_isB (e_var rfl) hn
  refine st_guard (t_or (t_not (t_B e1)) (fun _ => t_B e2)) (fun hx => st_ret ?_) (fun hx => st_ret ?_)
  · cases x <;> first | (cases hx; done) | exact e_bl
  · cases x <;> first | (cases hx; done) | skip
    rename_i i
    show EvD K _ _ (.bl (decide (a ≤ i) && decide (i ≤ b)))
    walk_at "cy.e"
theorem among_yes {i a b : Int} (h : a ≤ i ∧ i ≤ b) : amongI (.int i) a b = true := by
  show (decide (a ≤ i) && decide (i ≤ b)) = true
  rw [decide_eq_true h.1, decide_eq_true h.2]
  rfl
theorem rd_is_crane (K : PySem.W.Frag) (Z : CF K c_Rail) {ds : List D} {d : D} (h : R_is_crane ds d) : StD K (t_is_crane K c_Rail) (args nm_is_crane.length ds) (.rt d) := by
  obtain ⟨⟨s, h'⟩, rfl, ⟨h1, h2, h3, h4⟩, rfl⟩ := h
  unfold t_is_crane crD
  refine st_pass (t_is (t_or (t_not (t_B (e_isT (e_var rfl) rfl))) (fun _ => by walk_at "cy.t")) rfl) ?_
  refine st_seq (st_asg (e_var rfl) (g_tup (gs_cons g_name (gs_cons g_name gs_nil)) rfl)) (st_ret (e_is (e_andV (e_call (s_cons (e_var rfl) (s_cons e_int (s_cons e_int s_nil))) ⟨.int s, 1, 1000000000, rfl, rfl, rfl⟩) (fun _ => e_call (s_cons (e_var rfl) (s_cons e_int (s_cons e_int s_nil))) ⟨.int h', 1, 1000, rfl, rfl, rfl⟩)) ?_))
  rw [among_yes ⟨h1, h2⟩, among_yes ⟨h3, h4⟩]
  rfl
theorem rd_is_rail (K : PySem.W.Frag) (Z : CF K c_Rail) {ds : List D} {d : D} (h : R_is_rail ds d) : StD K (t_is_rail K c_Rail) (args nm_is_rail.length ds) (.rt d) := by
  obtain ⟨e, r, cr, rfl, ok, rfl⟩ := h
  have c1 := ok.c1
  have c2 := ok.c2
  have hlen : (cr.map crD).length = cr.length := List.length_map ..
  unfold t_is_rail
  refine st_pass (t_is (t_or (t_not (t_B (e_call (s_cons (e_var rfl) (s_cons e_int (s_cons e_int s_nil))) ⟨.int e, 1, 1000000000000, rfl, rfl, rfl⟩))) (fun _ => t_not (t_B (e_call (s_cons (e_var rfl) (s_cons e_int (s_cons e_int s_nil))) ⟨.int r, 1, 1000000, rfl, rfl, rfl⟩)))) (by rw [among_yes ⟨ok.e1, ok.e2⟩, among_yes ⟨ok.r1, ok.r2⟩]; rfl)) ?_
  refine st_pass (t_is (t_or (t_not (t_B (e_isL (e_var rfl) rfl))) (fun _ => by walk_at "cy.t")) (by
    show (!true || !(decide (1 ≤ (((cr.map crD).length : Nat) : Int)) && decide ((((cr.map crD).length : Nat) : Int) ≤ 6))) = false
    rw [hlen, decide_eq_true (by omega), decide_eq_true (by omega)]
    rfl)) ?_
  refine st_pass (t_is (t_not (t_B (e_cb (s_cons (e_is (e_share (o_lcM (fun _ => D.bl true) (it_list (e_var rfl)) (by rw [hlen]; omega) (fun d hd => ?_))) (b := .lst ((cr.map fun _ => true).map D.bl)) ?_) s_nil) n_all))) ?_) (st_ret ?_)
  · obtain ⟨p, hp, rfl⟩ := List.mem_map.mp hd
    rw [wipe1]
    exact e_call (s_cons (e_var rfl) s_nil) ⟨p, rfl, ok.cs p hp, rfl⟩
  · rw [List.map_map, List.map_map]
    rfl
  · have : (cr.map fun _ => true).all id = true := by
      rw [List.all_map]
      exact List.all_eq_true.mpr fun _ _ => rfl
    rw [this]
    rfl
  · refine e_is (e_op (e_op (e_op (e_cb (s_cons (e_var rfl) s_nil) n_lenL) e_int d_subI) (e_var rfl) (d_mulI (Or.inr ?_))) (e_var rfl) d_leI) ?_
    · have := ok.r1
      have := ok.r2
      omega
    · rw [hlen, decide_eq_true ok.fit]
theorem rd_Rail_init (K : PySem.W.Frag) (Z : CF K c_Rail) {x : Addr} {ds : List D} {fs : List (Str × D)} (h : R_Rail_init ds fs) : ∃ G, G[0]? = some (.own (.ins x c_Rail fs)) ∧ StD K (t_Rail_init K c_Rail) (argsI nm_Rail_init.length x c_Rail ds) (.nx G) := by
  obtain ⟨e, r, cr, rfl, ok, rfl⟩ := h
  have c2 := ok.c2
  have hlen : (cr.map crD).length = cr.length := List.length_map ..
  refine ⟨[.own (.ins x c_Rail (railFs e r cr)), .dat (.int e), .dat (.int r), .dat (.lst (cr.map crD)), .no, .no], rfl, ?_⟩
  unfold t_Rail_init
  refine st_pass (t_is (t_not (t_B (e_call (s_cons (e_var rfl) (s_cons (e_var rfl) (s_cons (e_var rfl) s_nil))) ⟨e, r, cr, rfl, ok, rfl⟩))) rfl) ?_
  refine st_seq (st_fld (i := 0) rfl (e_var rfl) Z.cl_Rail Z.n_Rail_end (by decide)) (st_seq (st_fld (i := 0) rfl (e_var rfl) Z.cl_Rail Z.n_Rail_room (by show 1 < 1000; decide)) (st_is (st_fld (i := 0) (d := .tup (cr.map crD)) rfl ?_ Z.cl_Rail Z.n_Rail_cranes (by show 2 < 1000; decide)) ?_))
  · refine e_cb (s_cons (e_is (e_share (o_lcM2 (by decide) (fun d => match d with | .tup [a, _] => a | _ => .non) (fun d => match d with | .tup [_, b] => b | _ => .non) (fun d => match d with | .tup [a, b] => .tup [a, b] | _ => .non) (it_list (e_var rfl)) (by rw [hlen]; omega) (fun d hd => ?_) (fun d hd => ?_))) ?_) s_nil) n_tupL
    · obtain ⟨p, _, rfl⟩ := List.mem_map.mp hd
      rfl
    · obtain ⟨p, _, rfl⟩ := List.mem_map.mp hd
      exact e_tup (s_cons (e_var rfl) (s_cons (e_var rfl) s_nil)) (by show 2 ≤ 100000; decide)
    · rw [List.map_map]
      rfl
  · rfl
theorem rd_l_cell_at (K : PySem.W.Frag) (Z : CF K c_Rail) {ds : List D} {d : D} (h : R_l_cell_at ds d) : StD K (t_l_cell_at K c_Rail) (args nm_l_cell_at.length ds) (.rt d) := by
  obtain ⟨ns, k, rfl, h0, rfl⟩ := h
  unfold t_l_cell_at
  by_cases hk : k < (ns.length : Int)
  · exact st_guard (x := true) (t_is (by walk_at "cy.t") (decide_eq_true hk)) (fun _ => st_ret (e_op (e_var rfl) (e_var rfl) (d_ixRn h0 hk))) (fun q => nomatch q)
  · refine st_guard (x := false) (t_is (by walk_at "cy.t") (decide_eq_false hk)) (fun q => nomatch q) (fun _ => st_ret (e_is e_int ?_))
    unfold cellAt
    rw [List.getD_eq_getElem?_getD, List.getElem?_eq_none (by omega)]
    rfl
theorem pow60 {K : PySem.W.Frag} : Op2 K gPow (.int 10) (.int 60) (.int 1000000000000000000000000000000000000000000000000000000000000) := by
  have h := d_pow (K := K) (i := 10) (j := 60) ⟨by decide, by decide, by decide⟩
  exact h
theorem rd_l_mixed (K : PySem.W.Frag) (Z : CF K c_Rail) {ds : List D} {d : D} (h : R_l_mixed ds d) : StD K (t_l_mixed K c_Rail) (args nm_l_mixed.length ds) (.rt d) := by
  obtain ⟨ns, k, rfl, h0, h1, rfl⟩ := h
  unfold t_l_mixed
  refine st_seq (st_asg (d := .int (cellAt ns k)) (e_call (s_cons (e_var rfl) (s_cons (e_var rfl) s_nil)) ⟨ns, k, rfl, h0, rfl⟩) g_name) ?_
  have e1 : EvTt K (tTest (tOp (gNe K) (tVar 0) (tLst tNil))) ((args nm_l_mixed.length [.scr ns, .int k]).set 2 (.dat (.int (cellAt ns k)))) (!ns.isEmpty) := t_is (t_test (e_op (e_var rfl) (e_share (o_lst s_nil (by decide))) (d_neD ok_scr ok_nil))) (by rw [eqD_scr])
  by_cases hc : ns ≠ [] ∧ ns.getD 0 0 % 2 = 1
  · have hne : (!ns.isEmpty) = true := by simp [hc.1]
    have hlen : 0 < ns.length := List.length_pos_iff.mpr hc.1
    refine st_guard (x := true) (t_is (t_and (y := true) e1 (fun _ => t_is (t_test (e_op (e_op (e_op (e_var rfl) e_int (d_ixRn (by decide) (by omega))) e_int (d_mod (by decide))) e_int d_eqI)) (decide_eq_true hc.2))) (by rw [hne]; rfl)) (fun _ => st_ret ?_) (fun q => nomatch q)
    unfold mx
    rw [if_pos hc]
    exact e_op (e_op (e_var rfl) (e_op e_int (e_op e_int e_int pow60) (d_mulI (Or.inl (by decide)))) (d_mod (by decide))) e_int (d_fdv (by decide) (by decide))
  · have hb : 0 ≤ mx1 ns k ∧ mx1 ns k < 2147483647 := ⟨Int.emod_nonneg _ (by decide), Int.emod_lt_of_pos _ (by decide)⟩
    have et : EvTt K (tAnd (tTest (tOp (gNe K) (tVar 0) (tLst tNil))) (tTest (tOp (gEq K) (tOp (gMod) (tOp (gIx K) (tVar 0) (tC (.int 0))) (tC (.int 2))) (tC (.int 1))))) ((args nm_l_mixed.length [.scr ns, .int k]).set 2 (.dat (.int (cellAt ns k)))) false := by
      by_cases hn : ns = []
      · refine t_is (t_and (y := false) e1 (fun q => ?_)) ?_
        · rw [hn] at q
          cases q
        · rw [hn]
          rfl
      · have hlen : 0 < ns.length := List.length_pos_iff.mpr hn
        have h2 : ¬ ns.getD 0 0 % 2 = 1 := fun q => hc ⟨hn, q⟩
        refine t_is (t_and (y := false) e1 (fun _ => t_is (t_test (e_op (e_op (e_op (e_var rfl) e_int (d_ixRn (by decide) (by omega))) e_int (d_mod (by decide))) e_int d_eqI)) (decide_eq_false h2))) (by simp)
    refine st_guard (x := false) et (fun q => nomatch q) (fun _ => ?_)
    refine st_seq (st_asg (d := .int (mx1 ns k)) ?_ g_name) (st_ret ?_)
    · unfold mx1
      exact e_op (e_op (e_op (e_op (e_var rfl) e_int (d_mulI (Or.inr (by decide)))) (e_op e_int (e_var rfl) (d_mulI (Or.inl (by decide)))) d_addI) e_int d_addI) e_int (d_mod (by decide))
    · unfold mx
      rw [if_neg hc]
      generalize mx1 ns k = m at hb
      walk_at "cy.e"

theorem rngD_get {lo : Int} {n i : Nat} {d : D} (h : (rngD lo n)[i]? = some d) : i < n ∧ d = .int (lo + (i : Int)) := by
  unfold rngD at h
  rw [List.getElem?_map] at h
  cases q : (List.range n)[i]? with
  | none =>
    rw [q] at h
    cases h
  | some j =>
    rw [q] at h
    obtain ⟨h2, h3⟩ := List.getElem?_eq_some_iff.mp q
    rw [List.getElem_range] at h3
    subst h3
    cases h
    rw [List.length_range] at h2
    exact ⟨h2, rfl⟩
theorem rngD_len {lo : Int} {n : Nat} : (rngD lo n).length = n := by
  unfold rngD
  rw [List.length_map, List.length_range]
theorem rngD_mem {lo : Int} {n : Nat} {d : D} (h : d ∈ rngD lo n) : ∃ i : Nat, i < n ∧ d = .int (lo + (i : Int)) := by
  unfold rngD at h
  obtain ⟨i, hi, rfl⟩ := List.mem_map.mp h
  exact ⟨i, List.mem_range.mp hi, rfl⟩
theorem map_get {α : Type} {f : α → D} (e : α) {l : List α} {i : Nat} {d : D} (h : (l.map f)[i]? = some d) : i < l.length ∧ d = f (l.getD i e) := by
  rw [List.getElem?_map] at h
  cases q : l[i]? with
  | none =>
    rw [q] at h
    cases h
  | some j =>
    rw [q] at h
    obtain ⟨h2, h3⟩ := List.getElem?_eq_some_iff.mp q
    cases h
    rw [List.getD_eq_getElem?_getD, q]
    exact ⟨h2, rfl⟩
theorem e_room (Z : CF K c_Rail) {e r : Int} {cr : List (Int × Int)} {G : List Sl} {ta : TE} (h : EvD K ta G (.obj c_Rail (railFs e r cr))) : EvD K (tFld K ta "room") G (.int r) := e_fld h Z.cl_Rail Z.n_Rail_room rfl
theorem e_end (Z : CF K c_Rail) {e r : Int} {cr : List (Int × Int)} {G : List Sl} {ta : TE} (h : EvD K ta G (.obj c_Rail (railFs e r cr))) : EvD K (tFld K ta "end") G (.int e) := e_fld h Z.cl_Rail Z.n_Rail_end rfl
theorem e_cranes (Z : CF K c_Rail) {e r : Int} {cr : List (Int × Int)} {G : List Sl} {ta : TE} (h : EvD K ta G (.obj c_Rail (railFs e r cr))) : EvD K (tFld K ta "cranes") G (.tup (cr.map crD)) := e_fld h Z.cl_Rail Z.n_Rail_cranes rfl
def leastA (r : Int) (ps : List Int) : Nat → Int
  | 0 => 0
  | i + 1 => ps.getD i 0 + r
theorem leastA_le {e r : Int} {ps : List Int} (ap : Ap e r ps) : ∀ i, i < ps.length → leastA r ps i ≤ ps.getD i 0
  | 0, h => ap.lo 0 h
  | i + 1, h => ap.gap i h
theorem rd_Rail_are_apart (K : PySem.W.Frag) (Z : CF K c_Rail) {ds : List D} {d : D} (h : R_Rail_are_apart c_Rail ds d) : StD K (t_Rail_are_apart K c_Rail) (args nm_Rail_are_apart.length ds) (.rt d) := by
  obtain ⟨e, r, cr, ps, rfl, ok, ap, hl, rfl⟩ := h
  have hlp : (ps.map D.int).length = ps.length := List.length_map ..
  have hlc : (cr.map crD).length = cr.length := List.length_map ..
  unfold t_Rail_are_apart
  refine st_pass (t_is (t_or (t_not (t_B (e_isL (e_var rfl) rfl))) (fun _ => t_test (e_op (e_cb (s_cons (e_var rfl) s_nil) n_lenL) (e_cb (s_cons (e_cranes Z (e_var rfl)) s_nil) n_lenT) d_neI))) (by rw [hlp, hlc, hl, decide_eq_true rfl]; rfl)) ?_
  refine st_seq (st_asg e_int g_name) ?_
  let C : Nat → List Sl := fun i => [.dat (.obj c_Rail (railFs e r cr)), .dat (.lst (ps.map D.int)), .dat (.int (leastA r ps i)), .no]
  refine st_seq (G1 := C ps.length) (st_for (it_list (e_var rfl)) C rfl (fun i => (C i).set 3 (.dat (.int (ps.getD i 0)))) (fun i d hd => ?_) (fun i => .nx ((C (i + 1)).set 3 (.dat (.int (ps.getD i 0))))) (fun i hi _ => ?_) (fun i hi => .inl ⟨_, .inl rfl, Wk.keep (Wk.keep (Wk.keep (Wk.drop Wk.nil)))⟩) (fun _ => by rw [hlp])) (st_ret e_bl)
  · obtain ⟨_, rfl⟩ := map_get 0 hd
    exact g_name
  · rw [hlp] at hi
    refine st_pass (t_is (t_not (t_B (e_call (s_cons (e_var rfl) (s_cons (e_var rfl) (s_cons (e_end Z (e_var rfl)) s_nil))) ⟨.int (ps.getD i 0), leastA r ps i, e, rfl, rfl, rfl⟩))) ?_) (st_asg (e_op (e_var rfl) (e_room Z (e_var rfl)) d_addI) g_name)
    rw [among_yes ⟨leastA_le ap i hi, ap.hi i hi⟩]
    rfl
theorem getD_ints {ns : List Int} {i : Nat} (h : i < ns.length) : (ns.map D.int).getD i .non = .int (ns.getD i 0) := getD_mapD D.int 0 ns i h
theorem ixI {ns : List Int} {i : Nat} (h : i < ns.length) : Op2 K (gIx K) (.lst (ns.map D.int)) (nat i) (.int (ns.getD i 0)) := d_ixI (i := (i : Int)) (by omega) (by omega)
theorem ixL {α : Type} {f : α → D} (e : α) {l : List α} {i : Nat} (h : i < l.length) : Op2 K (gIx K) (.lst (l.map f)) (nat i) (f (l.getD i e)) := by
  have := d_ixLn (K := K) (l := l.map f) (i := (i : Int)) (by omega) (by rw [List.length_map]; omega)
  rw [show ((i : Int)).toNat = i from rfl, getD_mapD f e l i h] at this
  exact this
theorem ixT {α : Type} {f : α → D} (e : α) {l : List α} {i : Nat} (h : i < l.length) : Op2 K (gIx K) (.tup (l.map f)) (nat i) (f (l.getD i e)) := by
  have := d_ixTn (K := K) (l := l.map f) (i := (i : Int)) (by omega) (by rw [List.length_map]; omega)
  rw [show ((i : Int)).toNat = i from rfl, getD_mapD f e l i h] at this
  exact this
theorem ix0 {p : Int × Int} : Op2 K (gIx K) (crD p) (.int 0) (.int p.1) := d_ixT (by rfl)
theorem ix1 {p : Int × Int} : Op2 K (gIx K) (crD p) (.int 1) (.int p.2) := d_ixT (by rfl)
theorem loD_sq (f : Nat → Int × Int) (n : Nat) : loD (sq f n) = (sq (fun i => (f i).1) n).map D.int := by
  unfold loD
  rw [sq_map, sq_map]
theorem hiD_sq (f : Nat → Int × Int) (n : Nat) : hiD (sq f n) = (sq (fun i => (f i).2) n).map D.int := by
  unfold hiD
  rw [sq_map, sq_map]
def lowV (r : Int) (S : PS) : Nat → D
  | 0 => .non
  | i + 1 => .int (lowE r S i)
def highV (r : Int) (S : PS) : Nat → D
  | 0 => .non
  | i + 1 => .int (highD r S S.length i)
theorem downD_get {lo : Int} {n i : Nat} {d : D} (h : (downD lo n)[i]? = some d) : i < n ∧ d = .int (lo + (n : Int) - 1 - (i : Int)) := by
  unfold downD at h
  rw [List.getElem?_map] at h
  cases q : (List.range n)[i]? with
  | none =>
    rw [q] at h
    cases h
  | some j =>
    rw [q] at h
    obtain ⟨h2, h3⟩ := List.getElem?_eq_some_iff.mp q
    rw [List.getElem_range] at h3
    subst h3
    cases h
    rw [List.length_range] at h2
    exact ⟨h2, rfl⟩
theorem downD_len {lo : Int} {n : Nat} : (downD lo n).length = n := by
  unfold downD
  rw [List.length_map, List.length_range]
theorem rd_l_ends (K : PySem.W.Frag) (Z : CF K c_Rail) {ds : List D} {d : D} (h : R_l_ends ds d) : StD K (t_l_ends K c_Rail) (args nm_l_ends.length ds) (.rt d) := by
  obtain ⟨S, r, c, rfl, hc, h6, rfl⟩ := h
  have hlS : (S.map crD).length = S.length := List.length_map ..
  unfold t_l_ends
  refine st_seq (st_asg e_none g_name) ?_
  let C : Nat → List Sl := fun i => [.dat (.int r), .dat (.lst (S.map crD)), .dat (nat c), .dat (lowV r S i), .no, .no]
  refine st_seq (G1 := C (c + 1)) (st_for (it_rng1 (n := ((c + 1 : Nat) : Int)) (s_cons (e_op (e_var rfl) e_int d_addI) s_nil) (by omega)) C rfl (fun i => (C i).set 4 (.dat (nat i))) (fun i d hd => ?_)
    (fun i => .nx ((C (i + 1)).set 4 (.dat (nat i)))) (fun i hi _ => ?_) (fun i hi => .inl ⟨_, .inl rfl, Wk.keep (Wk.keep (Wk.keep (Wk.keep (Wk.drop (Wk.keep Wk.nil)))))⟩) (fun _ => by rw [rngD_len]; rfl)) ?_
  · obtain ⟨_, rfl⟩ := rngD_get hd
    rw [Int.zero_add]
    exact g_name
  · rw [rngD_len] at hi
    have hi' : i < S.length := by omega
    refine st_asg (d := .int (lowE r S i)) ?_ g_name
    cases i with
    | zero => exact e_if (x := true) (t_test (e_op (e_var rfl) e_none d_isN)) (fun _ => e_op (e_op (e_var rfl) (e_var rfl) (ixL (f := crD) (0, 0) hi')) e_int ix0) (fun q => nomatch q)
    | succ i => exact e_if (x := false) (t_test (e_op (e_var rfl) e_none d_isN)) (fun q => nomatch q) (fun _ => e_cb (s_cons (e_op (e_op (e_var rfl) (e_var rfl) (ixL (f := crD) (0, 0) hi')) e_int ix0) (s_cons (e_op (e_var rfl) (e_var rfl) d_addI) s_nil)) n_max2)
  refine st_seq (st_asg e_none g_name) ?_
  let C2 : Nat → List Sl := fun i => [.dat (.int r), .dat (.lst (S.map crD)), .dat (nat c), .dat (.int (lowE r S c)), .no, .dat (highV r S i)]
  refine st_seq (G1 := C2 (S.length - c)) (st_for (it_revR (a := (c : Int)) (b := (S.length : Int)) (rg_2 (e_var rfl) (e_is (e_cb (s_cons (e_var rfl) s_nil) n_lenL) (by rw [hlS]))) (by omega)) C2 rfl (fun i => (C2 i).set 4 (.dat (nat (S.length - 1 - i)))) (fun i d hd => ?_)
    (fun i => .nx ((C2 (i + 1)).set 4 (.dat (nat (S.length - 1 - i))))) (fun i hi _ => ?_) (fun i hi => .inl ⟨_, .inl rfl, Wk.keep (Wk.keep (Wk.keep (Wk.keep (Wk.drop (Wk.keep Wk.nil)))))⟩) (fun _ => ?_)) ?_
  · obtain ⟨hi, rfl⟩ := downD_get hd
    have e : (c : Int) + (((S.length : Int) - (c : Int)).toNat : Int) - 1 - (i : Int) = ((S.length - 1 - i : Nat) : Int) := by omega
    rw [e]
    exact g_name
  · rw [downD_len] at hi
    have hi' : S.length - 1 - i < S.length := by omega
    refine st_asg (d := .int (highD r S S.length i)) ?_ g_name
    cases i with
    | zero => exact e_if (x := true) (t_test (e_op (e_var rfl) e_none d_isN)) (fun _ => e_op (e_op (e_var rfl) (e_var rfl) (ixL (f := crD) (0, 0) hi')) e_int ix1) (fun q => nomatch q)
    | succ i => exact e_if (x := false) (t_test (e_op (e_var rfl) e_none d_isN)) (fun q => nomatch q) (fun _ => e_cb (s_cons (e_op (e_op (e_var rfl) (e_var rfl) (ixL (f := crD) (0, 0) hi')) e_int ix1) (s_cons (e_op (e_var rfl) (e_var rfl) d_subI) s_nil)) n_min2)
  · rw [downD_len]
    have : ((S.length : Int) - (c : Int)).toNat = S.length - c := by omega
    rw [this]
  have hh : highV r S (S.length - c) = .int (highE r S c) := by
    have : S.length - c = (S.length - 1 - c) + 1 := by omega
    rw [this]
    rfl
  show StD K _ [.dat (.int r), .dat (.lst (S.map crD)), .dat (nat c), .dat (.int (lowE r S c)), .no, .dat (highV r S (S.length - c))] _
  rw [hh]
  exact st_ret (e_tup (s_cons (e_var rfl) (s_cons (e_var rfl) s_nil)) (by show 2 ≤ 100000; decide))

theorem zip3_get {ps : List Int} {ws : List Bool} {cr : List (Int × Int)} {i : Nat} {d : D} (h1 : ps.length = cr.length) (h2 : ws.length = cr.length) (h : (zipD3 (ps.map D.int) (ws.map D.bl) (cr.map crD))[i]? = some d) : i < ps.length ∧ d = .tup [.int (ps.getD i 0), .bl (ws.getD i false), .tup [.int (pA cr i), .int (pB cr i)]] := by
  have hi := (List.getElem?_eq_some_iff.mp h).1
  rw [zipD3_len, List.length_map, List.length_map, List.length_map] at hi
  have a1 : i < ps.length := by omega
  have a2 : i < ws.length := by omega
  have a3 : i < cr.length := by omega
  rw [zipD3_at (by rw [List.length_map]; exact a1) (by rw [List.length_map]; exact a2) (by rw [List.length_map]; exact a3)] at h
  cases h
  refine ⟨a1, ?_⟩
  rw [List.getElem_map, List.getElem_map, List.getElem_map]
  unfold pA pB crD
  simp only [List.getD_eq_getElem?_getD, List.getElem?_eq_getElem a1, List.getElem?_eq_getElem a2, List.getElem?_eq_getElem a3, Option.getD_some]
theorem rd_lows (K : PySem.W.Frag) (Z : CF K c_Rail) {ds l : List D} (h : R_lows c_Rail ds l) : StD K (t_lows K c_Rail) (args nm_lows.length ds) (.ro l) := by
  obtain ⟨e, r, cr, ps, ws, rfl, g, rfl⟩ := h
  have c2 := g.ok.c2
  have lp := g.lp
  have lw := g.lw
  unfold t_lows
  refine st_seq (st_asgO (o_lst s_nil (by show 0 ≤ 100000; decide))) (st_seq (st_asg (d := .int 0) e_int g_name) ?_)
  let C : Nat → List Sl := fun i => [.dat (.obj c_Rail (railFs e r cr)), .dat (.lst (ps.map D.int)), .dat (wsD ws), .own (.lst ((sq (lowE r (sides e cr ps ws)) i).map D.int)), .dat (.int (pshL r (sides e cr ps ws) i)), .no, .no, .no, .no, .no]
  let T : Nat → List Sl := fun i => ((((C i).set 5 (.dat (.int (ps.getD i 0)))).set 6 (.dat (.bl (ws.getD i false)))).set 7 (.dat (.int (pA cr i)))).set 8 (.dat (.int (pB cr i)))
  refine st_seq (G1 := C ps.length) (st_for (it_zip3 (s_cons (e_var rfl) (s_cons (e_var rfl) (s_cons (e_cranes Z (e_var rfl)) s_nil)))) C rfl T (fun i d hd => ?_)
    (fun i => .nx ((((T i).set 9 (.dat (.int (lowE r (sides e cr ps ws) i)))).set 3 (.own (.lst ((sq (lowE r (sides e cr ps ws)) (i + 1)).map D.int)))).set 4 (.dat (.int (pshL r (sides e cr ps ws) (i + 1)))))) (fun i hi _ => ?_)
    (fun i hi => .inl ⟨_, .inl rfl, Wk.keep (Wk.keep (Wk.keep (Wk.keep (Wk.keep (Wk.drop (Wk.drop (Wk.drop (Wk.drop (Wk.drop Wk.nil)))))))))⟩) (fun _ => by rw [zipD3_len, List.length_map, List.length_map, List.length_map, lw, lp, Nat.min_self, Nat.min_self])) (st_retV (i := 3) rfl)
  · obtain ⟨h1, rfl⟩ := zip3_get lp lw hd
    exact g_tup (gs_cons g_name (gs_cons g_name (gs_cons (g_tup (gs_cons g_name (gs_cons g_name gs_nil)) rfl) gs_nil))) rfl
  · rw [zipD3_len, List.length_map, List.length_map, List.length_map, lw, lp, Nat.min_self, Nat.min_self] at hi
    have hi' : i < ps.length := by omega
    have ht : EvTt K (tB (tVar 6)) (T i) (ws.getD i false) := t_B (e_var rfl)
    have hif : EvD K (tIf (tB (tVar 6)) (tVar 5) (tOp (gSub) (tVar 5) (tVar 7))) (T i) (.int (if ws.getD i false then ps.getD i 0 else ps.getD i 0 - pA cr i)) := e_if ht (fun q => e_is (e_var rfl) (by rw [if_pos q])) (fun q => e_is (e_op (e_var rfl) (e_var rfl) d_subI) (by rw [if_neg (by rw [q]; exact Bool.false_ne_true)]))
    exact st_seq (st_asg (d := .int (lowE r (sides e cr ps ws) i)) (e_is (e_cb (s_cons (e_var rfl) (s_cons hif s_nil)) n_max2) (by rw [g.low_at hi'])) g_name) (st_seq (st_is (st_app (i := 3) (d := .int (lowE r (sides e cr ps ws) i)) rfl (e_var rfl) (by rw [List.length_map, sq_len]; omega)) (by rw [show ((sq (lowE r (sides e cr ps ws)) i).map D.int) ++ [D.int (lowE r (sides e cr ps ws) i)] = ((sq (lowE r (sides e cr ps ws)) (i + 1)).map D.int) from by rw [sq_succ, List.map_append]; rfl])) (st_asg (e_op (e_var rfl) (e_room Z (e_var rfl)) d_addI) g_name))
theorem rd_highs (K : PySem.W.Frag) (Z : CF K c_Rail) {ds l : List D} (h : R_highs c_Rail ds l) : StD K (t_highs K c_Rail) (args nm_highs.length ds) (.ro l) := by
  obtain ⟨e, r, cr, ps, ws, rfl, g, rfl⟩ := h
  have hS := g.spn.len
  have c2 := g.ok.c2
  have lp := g.lp
  have lw := g.lw
  unfold t_highs
  refine st_seq (st_asgO (o_lst s_nil (by show 0 ≤ 100000; decide))) (st_seq (st_asg (e_end Z (e_var rfl)) g_name) ?_)
  let C : Nat → List Sl := fun i => [.dat (.obj c_Rail (railFs e r cr)), .dat (.lst (ps.map D.int)), .dat (wsD ws), .own (.lst ((sq (highD r (sides e cr ps ws) ps.length) i).map D.int)), .dat (.int (pshH e r (sides e cr ps ws) ps.length i)), .no, .no, .no]
  let T : Nat → List Sl := fun i => (C i).set 5 (.dat (nat (ps.length - 1 - i)))
  refine st_seq (G1 := C ps.length) (st_for (it_rngDn (a := (ps.length : Int) - 1) (n := ps.length) (s_cons (e_op (e_is (e_cb (s_cons (e_var rfl) s_nil) n_lenL) (by rw [List.length_map])) e_int d_subI) (s_cons (e_un e_int op1_neg) (s_cons (e_un e_int op1_neg) s_nil))) (by omega) (by omega)) C rfl T (fun i d hd => ?_)
    (fun i => .nx (((((T i).set 6 (.dat (.int (stepAt cr ws (ps.length - 1 - i))))).set 7 (.dat (.int (highD r (sides e cr ps ws) ps.length i)))).set 3 (.own (.lst ((sq (highD r (sides e cr ps ws) ps.length) (i + 1)).map D.int)))).set 4 (.dat (.int (pshH e r (sides e cr ps ws) ps.length (i + 1)))))) (fun i hi _ => ?_)
    (fun i hi => .inl ⟨_, .inl rfl, Wk.keep (Wk.keep (Wk.keep (Wk.keep (Wk.keep (Wk.drop (Wk.drop (Wk.drop Wk.nil)))))))⟩) (fun _ => by rw [downD_len])) (st_seq (st_turn (i := 3) rfl) (st_is (st_retV (i := 3) rfl) ?_))
  · obtain ⟨hi, rfl⟩ := downD_get hd
    have e : (0 : Int) + (ps.length : Int) - 1 - (i : Int) = ((ps.length - 1 - i : Nat) : Int) := by omega
    rw [e]
    exact g_name
  · rw [downD_len] at hi
    have hi' : ps.length - 1 - i < ps.length := by omega
    refine st_seq (st_asg (d := .int (stepAt cr ws (ps.length - 1 - i))) ?_ g_name) (st_seq (st_asg (d := .int (highD r (sides e cr ps ws) ps.length i)) (e_is (e_cb (s_cons (e_var rfl) (s_cons (e_op (e_op (e_var rfl) (e_var rfl) (ixI hi')) (e_var rfl) d_addI) s_nil)) n_min2) (by rw [g.high_at hi])) g_name) (st_seq (st_is (st_app (i := 3) (d := .int (highD r (sides e cr ps ws) ps.length i)) rfl (e_var rfl) (by rw [List.length_map, sq_len]; omega)) (by rw [show ((sq (highD r (sides e cr ps ws) ps.length) i).map D.int) ++ [D.int (highD r (sides e cr ps ws) ps.length i)] = ((sq (highD r (sides e cr ps ws) ps.length) (i + 1)).map D.int) from by rw [sq_succ, List.map_append]; rfl])) (st_asg (e_op (e_var rfl) (e_room Z (e_var rfl)) d_subI) g_name)))
    have ht : EvTt K (tB (tOp (gIx K) (tVar 2) (tVar 5))) (T i) (ws.getD (ps.length - 1 - i) false) := t_B (e_op (e_var rfl) (e_var rfl) (ixL (f := D.bl) false (by omega)))
    unfold stepAt
    exact e_if ht (fun q => e_is e_int (by rw [q]; rfl)) (fun q => e_is (e_op (e_op (e_cranes Z (e_var rfl)) (e_var rfl) (ixT (f := crD) (0, 0) (by omega))) e_int ix0) (by rw [q]; rfl))
  · rw [← List.map_reverse, sq_rev]
    unfold highE
    rw [hS]

theorem e_wish {K : PySem.W.Frag} {G : List Sl} {i j k : Nat} {ps : List Int} {gs : List (Option Int)} {c : Nat} (hg : G[i]? = some (.dat (gsD gs))) (hp : G[j]? = some (.dat (.lst (ps.map D.int)))) (hk : G[k]? = some (.dat (nat c))) (h1 : c < gs.length) (h2 : c < ps.length) :
    EvD K (tIf (tTest (tOp gIs (tOp (gIx K) (tVar i) (tVar k)) (tC .non))) (tOp (gIx K) (tVar j) (tVar k)) (tOp (gIx K) (tVar i) (tVar k))) G (.int (wish ps gs c)) := by
  have hi : EvD K (tOp (gIx K) (tVar i) (tVar k)) G (goalD (gs.getD c none)) := e_op (e_var hg) (e_var hk) (ixL (f := goalD) none h1)
  have ht : EvTt K (tTest (tOp gIs (tOp (gIx K) (tVar i) (tVar k)) (tC .non))) G (isNon (goalD (gs.getD c none))) := t_test (e_op hi e_none d_isN)
  have hw : EvD K (tOp (gIx K) (tVar j) (tVar k)) G (.int (ps.getD c 0)) := e_op (e_var hp) (e_var hk) (ixI h2)
  unfold wish
  cases hx : gs.getD c none with
  | none =>
    rw [hx] at ht
    exact e_if ht (fun _ => hw) (fun q => nomatch q)
  | some g =>
    rw [hx] at ht hi
    exact e_if ht (fun q => nomatch q) (fun _ => hi)
theorem loD_set {S : PS} {c : Nat} {p : Int} : (loD S).set c (.int p) = loD (S.set c (p, p)) := by
  unfold loD
  rw [List.map_set]
theorem hiD_set {S : PS} {c : Nat} {p : Int} : (hiD S).set c (.int p) = hiD (S.set c (p, p)) := by
  unfold hiD
  rw [List.map_set]
theorem loD_len {S : PS} : (loD S).length = S.length := List.length_map ..
theorem hiD_len {S : PS} : (hiD S).length = S.length := List.length_map ..
theorem nat_get {rk : List Nat} {i : Nat} {d : D} (h : (rk.map nat)[i]? = some d) : i < rk.length ∧ d = nat (rk.getD i 0) := map_get (f := nat) 0 h
theorem enum_get {l : List D} {i : Nat} {d : D} (h : (enumD l)[i]? = some d) : i < l.length ∧ d = .tup [.int (i : Int), l.getD i .non] := by
  unfold enumD at h
  rw [List.getElem?_map] at h
  cases q : (List.range l.length)[i]? with
  | none =>
    rw [q] at h
    cases h
  | some j =>
    rw [q] at h
    obtain ⟨h2, h3⟩ := List.getElem?_eq_some_iff.mp q
    rw [List.getElem_range] at h3
    subst h3
    cases h
    rw [List.length_range] at h2
    exact ⟨h2, rfl⟩
theorem enum_len {l : List D} : (enumD l).length = l.length := by
  unfold enumD
  rw [List.length_map, List.length_range]
theorem crD_set {S : PS} {c : Nat} {p : Int × Int} : (S.map crD).set c (crD p) = (S.set c p).map crD := by
  rw [List.map_set]
theorem rd_l_due (K : PySem.W.Frag) (Z : CF K c_Rail) {ds l : List D} (h : R_l_due ds l) : StD K (t_l_due K c_Rail) (args nm_l_due.length ds) (.ro l) := by
  obtain ⟨e, r, cr, ps, ws, gs, rk, rfl, hh, rfl⟩ := h
  have c2 := hh.ok.c2
  have hlr : (rk.map nat).length = rk.length := List.length_map ..
  have hlp : (ps.map D.int).length = ps.length := List.length_map ..
  have lp := hh.lp
  have lg := hh.lg
  have lw := hh.lw
  have lr := hh.lr
  have spn : Spn r e ps.length (sides e cr ps ws) := sides_spn hh.ok hh.ap hh.lp ws
  unfold t_l_due
  refine st_seq (st_asg (e_var rfl) (g_tup (gs_cons g_name (gs_cons g_name (gs_cons g_name gs_nil))) rfl)) (st_seq (st_asgO (o_lst s_nil (by show 0 ≤ 100000; decide))) ?_)
  let C : PS → List Sl := fun S => [.dat (.tup [.int e, .int r, .lst (cr.map crD)]), .dat (.lst (ps.map D.int)), .dat (wsD ws), .dat (gsD gs), .dat (.lst (rk.map nat)), .dat (.int e), .dat (.int r), .dat (.lst (cr.map crD)), .own (.lst (S.map crD)), .no, .no, .no, .no, .no, .no, .no]
  let C1 : Nat → List Sl := fun i => C (sq (side e cr ps ws) i)
  let T1 : Nat → List Sl := fun i => ((C1 i).set 9 (.dat (nat i))).set 10 (.dat (.int (ps.getD i 0)))
  refine st_seq (G1 := C1 ps.length) (st_for (it_enum (s_cons (e_var rfl) s_nil)) C1 rfl T1 (fun i d hd => ?_)
    (fun i => .nx (((T1 i).set 11 (.dat (.int (stepAt cr ws i)))).set 8 (.own (.lst ((sq (side e cr ps ws) (i + 1)).map crD))))) (fun i hi _ => ?_)
    (fun i hi => .inl ⟨_, .inl rfl, Wk.keep (Wk.keep (Wk.keep (Wk.keep (Wk.keep (Wk.keep (Wk.keep (Wk.keep (Wk.keep (Wk.drop (Wk.drop (Wk.drop (Wk.keep (Wk.keep (Wk.keep (Wk.keep Wk.nil)))))))))))))))⟩) (fun _ => by rw [enum_len, hlp])) ?_
  · obtain ⟨h1, rfl⟩ := enum_get hd
    rw [hlp] at h1
    rw [getD_ints h1]
    exact g_tup (gs_cons g_name (gs_cons g_name gs_nil)) rfl
  · rw [enum_len, hlp] at hi
    refine st_seq (st_asg (d := .int (stepAt cr ws i)) ?_ g_name) (st_is (st_app (i := 8) (d := crD (side e cr ps ws i)) rfl (e_tup (s_cons (e_cb (s_cons e_int (s_cons (e_op (e_var rfl) (e_var rfl) d_subI) s_nil)) n_max2) (s_cons (e_cb (s_cons (e_var rfl) (s_cons (e_op (e_var rfl) (e_var rfl) d_addI) s_nil)) n_min2) s_nil)) (by show 2 ≤ 100000; decide)) (by rw [List.length_map, sq_len]; omega)) ?_)
    · have ht : EvTt K (tB (tOp (gIx K) (tVar 2) (tVar 9))) (T1 i) (ws.getD i false) := t_B (e_op (e_var rfl) (e_var rfl) (ixL (f := D.bl) false (by omega)))
      unfold stepAt
      cases hx : ws.getD i false with
      | true =>
        rw [hx] at ht
        exact e_if ht (fun _ => e_int) (fun q => nomatch q)
      | false =>
        rw [hx] at ht
        exact e_if ht (fun q => nomatch q) (fun _ => e_op (e_op (e_var rfl) (e_var rfl) (ixL (f := crD) (0, 0) (by omega))) e_int ix0)
    · rw [sq_succ, List.map_append]
      rfl
  let Sk : Nat → PS := fun k => fst r ps gs rk (sides e cr ps ws) k
  let C2 : Nat → List Sl := fun k => C (Sk k)
  let T2 : Nat → List Sl := fun k => (C2 k).set 12 (.dat (nat (rk.getD k 0)))
  let W : Nat → List Sl := fun k => (((T2 k).set 13 (.dat (.int (lowE r (Sk k) (rk.getD k 0))))).set 14 (.dat (.int (highE r (Sk k) (rk.getD k 0))))).set 15 (.dat (.int (wish ps gs (rk.getD k 0))))
  refine st_seq (G1 := C2 rk.length) (st_for (it_list (e_var rfl)) C2 rfl T2 (fun i d hd => ?_)
    (fun k => .nx (((W k).set 10 (.dat (.int (plc r ps gs (Sk k) (rk.getD k 0))))).set 8 (.own (.lst ((Sk (k + 1)).map crD)))))
    (fun k hk _ => ?_) (fun i hi => .inl ⟨_, .inl rfl, Wk.keep (Wk.keep (Wk.keep (Wk.keep (Wk.keep (Wk.keep (Wk.keep (Wk.keep (Wk.keep (Wk.keep (Wk.drop (Wk.keep (Wk.drop (Wk.drop (Wk.drop (Wk.drop Wk.nil)))))))))))))))⟩) (fun _ => by rw [hlr])) ?_
  · obtain ⟨_, rfl⟩ := nat_get hd
    exact g_name
  · rw [hlr] at hk
    have hc : rk.getD k 0 < cr.length := hh.hr _ (getD_in 0 rk k hk)
    have hSp : Spn r e ps.length (Sk k) := fst_spn spn ps gs (rk := rk) (fun c hc => by rw [lp]; exact hh.hr c hc) k (by omega)
    have hS : (Sk k).length = cr.length := by rw [hSp.len, lp]
    have hlh := fits_le hSp.fit (i := rk.getD k 0) (by omega)
    refine st_seq (st_asg (d := .tup [.int (lowE r (Sk k) (rk.getD k 0)), .int (highE r (Sk k) (rk.getD k 0))]) (e_look (i := 8) rfl (e_call (s_cons (e_var rfl) (s_cons (e_var rfl) (s_cons (e_var rfl) s_nil))) ⟨Sk k, r, rk.getD k 0, rfl, by rw [hS]; exact hc, by rw [hS]; exact c2, rfl⟩) (by rfl)) (g_tup (gs_cons g_name (gs_cons g_name gs_nil)) rfl)) ?_
    refine st_seq (st_asg (e_wish (ps := ps) (gs := gs) (c := rk.getD k 0) rfl rfl rfl (by omega) (by omega)) g_name) ?_
    refine st_seq (st_asg (d := .int (plc r ps gs (Sk k) (rk.getD k 0))) ?_ g_name) (st_is (st_setI (i := 8) (j := rk.getD k 0) (d := crD (plc r ps gs (Sk k) (rk.getD k 0), plc r ps gs (Sk k) (rk.getD k 0))) rfl (e_tup (s_cons (e_var rfl) (s_cons (e_var rfl) s_nil)) (by show 2 ≤ 100000; decide)) (e_var rfl) (by rw [List.length_map, hS]; exact hc)) ?_)
    · by_cases hw : wish ps gs (rk.getD k 0) < lowE r (Sk k) (rk.getD k 0)
      · refine e_if (x := true) (t_is (t_test (e_op (e_var rfl) (e_var rfl) d_ltI)) (decide_eq_true hw)) (fun _ => e_is (e_var rfl) ?_) (fun q => nomatch q)
        unfold plc
        congr 1
        omega
      · refine e_if (x := false) (t_is (t_test (e_op (e_var rfl) (e_var rfl) d_ltI)) (decide_eq_false hw)) (fun q => nomatch q) (fun _ => e_is (e_cb (s_cons (e_var rfl) (s_cons (e_var rfl) s_nil)) n_min2) ?_)
        unfold plc
        congr 1
        omega
    · rw [crD_set]
      rfl
  refine st_freeze (i := 8) rfl ?_
  have := o_lcM2 (K := K) (G := (C2 rk.length).set 8 (.dat (.lst ((Sk rk.length).map crD)))) (te := tVar 13) (i := 13) (j := 14) (by decide) (fun d => match d with | .tup [a, _] => a | _ => .non) (fun d => match d with | .tup [_, b] => b | _ => .non) (fun d => match d with | .tup [a, _] => a | _ => .non) (it_list (te := tVar 8) (e_var rfl)) (by
    rw [List.length_map]
    show (fst r ps gs rk (sides e cr ps ws) rk.length).length ≤ _
    rw [fst_len, spn.len]
    omega) (fun d hd => by
      obtain ⟨p, _, rfl⟩ := List.mem_map.mp hd
      rfl) (fun d hd => by
      obtain ⟨p, _, rfl⟩ := List.mem_map.mp hd
      exact e_var rfl)
  refine st_is (st_retO this) ?_
  rw [List.map_map]
  rfl

theorem d_pow11 {K : PySem.W.Frag} : Op2 K gPow (.int 10) (.int 11) (.int 100000000000) := by
  have h := d_pow (K := K) (i := 10) (j := 11) ⟨by decide, by decide, by decide⟩
  exact h
theorem e_mixed {K : PySem.W.Frag} {G : List Sl} {ns : List Int} {i : Nat} {k : Int} {E : XK} (h : G[i]? = some (.dat (.scr ns))) (hk : 0 ≤ k ∧ k ≤ 1000) : EvD K (tCall (sp_l_mixed K c_Rail) [] E (tCons (tVar i) (tCons (tC (.int k)) tNil))) G (.int (mx ns k)) := e_call (s_cons (e_var h) (s_cons e_int s_nil)) ⟨ns, k, rfl, hk.1, hk.2, rfl⟩
theorem atI_last {α : Type} (e : α) {l : List α} (h : 0 < l.length) : atI l (-1) = some (l.getD (l.length - 1) e) := by
  unfold atI ixN
  rw [if_neg (by decide), if_pos (by omega)]
  show l[((-1 : Int) + (l.length : Int)).toNat]? = _
  have : ((-1 : Int) + (l.length : Int)).toNat = l.length - 1 := by omega
  rw [this, List.getD_eq_getElem?_getD, List.getElem?_eq_getElem (by omega)]
  rfl
theorem rd_l_rail (K : PySem.W.Frag) (Z : CF K c_Rail) {ds : List D} {d : D} (h : R_l_rail ds d) : StD K (t_l_rail K c_Rail) (args nm_l_rail.length ds) (.rt d) := by
  obtain ⟨ns, s, rfl, hs, rfl⟩ := h
  have hn := rN_in ns
  have hsb : 0 < s ∧ s ≤ 250000 := by rcases hs with rfl | rfl | rfl <;> decide
  have m0 := mx_nn ns 0
  have m1 := mx_nn ns 1
  have m2 := mx_nn ns 2
  have m3 := mx_nn ns 3
  unfold t_l_rail
  refine st_seq (st_asg (d := .int ((rN ns : Nat) : Int)) (e_is (e_op e_int (e_op (e_mixed rfl (by decide)) e_int (d_mod (by decide))) d_addI) (by rw [hn.2.2])) g_name) ?_
  refine st_seq (st_asg (d := .int (rR ns s)) (e_op (e_var rfl) (e_op e_int (e_op (e_op (e_mixed rfl (by decide)) e_int (d_fdv (by decide) (by decide))) e_int (d_mod (by decide))) d_addI) (d_mulI (Or.inl (by omega)))) g_name) ?_
  refine st_seq (st_asgO (o_lst s_nil (by show 0 ≤ 100000; decide))) ?_
  have hfar := farL_in (mx ns 1 / 3 % 3).toNat
  refine st_seq (st_asg (d := .int (rFar ns s)) (e_op (e_op (e_is (b := .lst (farL.map D.int)) (e_share (o_lst (ds := [.int 0, .int 100000000007, .int 999000000000]) (s_cons e_int (s_cons (e_op (e_op e_int e_int d_pow11) e_int d_addI) (s_cons (e_op (e_op e_int e_int d_pow12) (e_op e_int e_int d_pow9) d_subI) s_nil))) (by show 3 ≤ 100000; decide))) rfl) (e_op (e_op (e_mixed rfl (by decide)) e_int (d_fdv (by decide) (by decide))) e_int (d_mod (by decide))) (d_ixI (Int.emod_nonneg _ (by decide)) (Int.emod_lt_of_pos _ (by decide)))) (e_cb (s_cons (e_op (e_var rfl) e_int d_gtI) s_nil) n_intB) (d_mulI (Or.inl (by omega)))) g_name) ?_
  refine st_seq (st_asg (d := .int (atf ns s 0)) (e_op (e_var rfl) (e_op (e_var rfl) (e_op (e_mixed rfl (by decide)) e_int (d_mod (by decide))) (d_mulI (Or.inl (by omega)))) d_addI) g_name) ?_
  let C : Nat → List Sl := fun i => [.dat (.scr ns), .dat (.int s), .dat (.int ((rN ns : Nat) : Int)), .dat (.int (rR ns s)), .own (.lst (((List.range i).map (atf ns s)).map D.int)), .dat (.int (rFar ns s)), .dat (.int (atf ns s i)), .no, .no, .no, .no]
  refine st_seq (G1 := C (rN ns)) (st_for (it_rng1 (n := ((rN ns : Nat) : Int)) (s_cons (e_var rfl) s_nil) (by omega)) C rfl (fun i => (C i).set 7 (.dat (.int (i : Int)))) (fun i d hd => ?_)
    (fun i => .nx ((C (i + 1)).set 7 (.dat (.int (i : Int))))) (fun i hi _ => ?_) (fun i hi => .inl ⟨_, .inl rfl, Wk.keep (Wk.keep (Wk.keep (Wk.keep (Wk.keep (Wk.keep (Wk.keep (Wk.drop (Wk.keep (Wk.keep (Wk.keep Wk.nil))))))))))⟩) (fun _ => by rw [rg_len]; rfl)) ?_
  · obtain ⟨_, rfl⟩ := rg_get hd
    rw [Int.zero_add]
    exact g_name
  · rw [rg_len] at hi
    refine st_seq (st_app (i := 4) rfl (e_var rfl) (by rw [List.length_map, List.length_map, List.length_range]; omega)) (st_is (st_asg (d := .int (atf ns s (i + 1))) (e_op (e_op (e_op (e_var rfl) (e_var rfl) d_addI) (e_op (e_var rfl) (e_op (e_op (e_mixed rfl (by decide)) (e_op e_int (e_op e_int (e_var rfl) (d_mulI (Or.inl (by decide)))) d_addI) (d_fdv (by omega) (by omega))) e_int (d_mod (by decide))) (d_mulI (Or.inl (by omega)))) d_addI) (e_op (e_op (e_mixed rfl (by decide)) (e_op e_int (e_var rfl) d_addI) (d_fdv (by omega) (by omega))) (e_var rfl) (d_mod (by omega))) d_addI) g_name) ?_)
    show Out.nx [.dat (.scr ns), .dat (.int s), .dat (.int ((rN ns : Nat) : Int)), .dat (.int (rR ns s)), .own (.lst (((List.range i).map (atf ns s)).map D.int ++ [.int (atf ns s i)])), _, _, _, _, _, _] = Out.nx [.dat (.scr ns), .dat (.int s), .dat (.int ((rN ns : Nat) : Int)), .dat (.int (rR ns s)), .own (.lst (((List.range (i + 1)).map (atf ns s)).map D.int)), _, _, _, _, _, _]
    rw [List.range_succ, List.map_append, List.map_append]
    rfl
  have hpl : 0 < ((rP ns s).map D.int).length := by
    rw [List.length_map, rP_len]
    omega
  have hlast : atI ((rP ns s).map D.int) (-1) = some (.int (atf ns s (rN ns - 1))) := by
    rw [atI_last .non hpl, List.length_map, rP_len, getD_mapD D.int 0 _ _ (by rw [rP_len]; omega), rP_get ns s (by omega)]
  refine st_seq (st_asg (d := .int (rE ns s)) (e_op (e_look (i := 4) rfl (e_op (e_var rfl) (e_un e_int op1_neg) (d_ixL hlast)) (by rfl)) (e_op (e_var rfl) (e_op e_int (e_op (e_op (e_mixed rfl (by decide)) e_int (d_fdv (by decide) (by decide))) e_int (d_mod (by decide))) d_addI) (d_mulI (Or.inl (by omega)))) d_addI) g_name) ?_
  refine st_seq (st_asgO (o_lst s_nil (by show 0 ≤ 100000; decide))) ?_
  let C2 : Nat → List Sl := fun i => [.dat (.scr ns), .dat (.int s), .dat (.int ((rN ns : Nat) : Int)), .dat (.int (rR ns s)), .own (.lst ((rP ns s).map D.int)), .dat (.int (rFar ns s)), .dat (.int (atf ns s (rN ns))), .no, .dat (.int (rE ns s)), .own (.lst (((List.range i).map (crf ns s)).map crD)), .no]
  refine st_seq (G1 := C2 (rN ns)) (st_for (it_rng1 (n := ((rN ns : Nat) : Int)) (s_cons (e_var rfl) s_nil) (by omega)) C2 rfl (fun i => (C2 i).set 7 (.dat (.int (i : Int)))) (fun i d hd => ?_)
    (fun i => .nx (((C2 (i + 1)).set 7 (.dat (.int (i : Int)))).set 10 (.dat (.int (crf ns s i).1)))) (fun i hi _ => ?_) (fun i hi => .inl ⟨_, .inl rfl, Wk.keep (Wk.keep (Wk.keep (Wk.keep (Wk.keep (Wk.keep (Wk.keep (Wk.drop (Wk.keep (Wk.keep (Wk.drop Wk.nil))))))))))⟩) (fun _ => by rw [rg_len]; rfl)) ?_
  · obtain ⟨_, rfl⟩ := rg_get hd
    rw [Int.zero_add]
    exact g_name
  · rw [rg_len] at hi
    refine st_seq (st_asg (d := .int (crf ns s i).1) (e_op (e_var rfl) (e_op e_int (e_op (e_op (e_mixed rfl (by decide)) (e_op e_int (e_op e_int (e_var rfl) (d_mulI (Or.inl (by decide)))) d_addI) (d_fdv (by omega) (by omega))) e_int (d_mod (by decide))) d_addI) (d_mulI (Or.inl (by omega)))) g_name) (st_is (st_app (i := 9) (d := crD (crf ns s i)) rfl (e_tup (s_cons (e_var rfl) (s_cons (e_op e_int (e_op (e_op (e_mixed rfl (by decide)) (e_op e_int (e_op e_int (e_var rfl) (d_mulI (Or.inl (by decide)))) d_addI) (d_fdv (by omega) (by omega))) e_int (d_mod (by decide))) d_addI) s_nil)) (by show 2 ≤ 100000; decide)) (by rw [List.length_map, List.length_map, List.length_range]; omega)) ?_)
    have ec : ((List.range (i + 1)).map (crf ns s)).map crD = ((List.range i).map (crf ns s)).map crD ++ [crD (crf ns s i)] := by
      rw [List.range_succ, List.map_append, List.map_append]
      rfl
    show Out.nx (((C2 i).set 7 (.dat (.int (i : Int)))).set 10 (.dat (.int (crf ns s i).1)) |>.set 9 (.own (.lst (((List.range i).map (crf ns s)).map crD ++ [crD (crf ns s i)])))) = Out.nx (((C2 i).set 7 (.dat (.int (i : Int)))).set 10 (.dat (.int (crf ns s i).1)) |>.set 9 (.own (.lst (((List.range (i + 1)).map (crf ns s)).map crD))))
    rw [ec]
  exact st_freeze (i := 9) rfl (st_freeze (i := 4) rfl (st_ret (e_tup (s_cons (e_var rfl) (s_cons (e_var rfl) (s_cons (e_var rfl) (s_cons (e_var rfl) s_nil)))) (by show 4 ≤ 100000; decide))))

theorem rd_l_ranks (K : PySem.W.Frag) (Z : CF K c_Rail) {ds l : List D} (h : R_l_ranks ds l) : StD K (t_l_ranks K c_Rail) (args nm_l_ranks.length ds) (.ro l) := by
  obtain ⟨num, many, rfl, h1, h6, rfl⟩ := h
  unfold t_l_ranks
  refine st_seq (st_asgO (o_listRg (a := 0) (b := (many : Int)) (rg_1 (e_var rfl)) (by unfold RgOk; omega))) (st_seq (st_asgO (o_lst s_nil (by show 0 ≤ 100000; decide))) ?_)
  let C : Nat → List Sl := fun k => [.dat (.int num), .dat (nat many), .own (.lst ((rkS num many k).1.map nat)), .own (.lst ((rkS num many k).2.map nat)), .no]
  refine st_seq (G1 := C many) (st_for (it_rng1 (n := (many : Int)) (s_cons (e_var rfl) s_nil) (by omega)) C ?_ (fun i => (C i).set 4 (.dat (nat i))) (fun i d hd => ?_)
    (fun i => .nx ((C (i + 1)).set 4 (.dat (nat i)))) (fun i hi _ => ?_) (fun i hi => .inl ⟨_, .inl rfl, Wk.keep (Wk.keep (Wk.keep (Wk.keep (Wk.drop Wk.nil))))⟩) (fun _ => by rw [rngD_len]; rfl)) (st_retV (i := 3) rfl)
  · have : rngD 0 ((many : Int) - 0).toNat = (List.range many).map nat := by
      unfold rngD
      have e : ((many : Int) - 0).toNat = many := by omega
      rw [e]
      refine List.map_congr_left fun i _ => ?_
      show D.int (0 + (i : Int)) = D.int (i : Int)
      rw [Int.zero_add]
    show _ = [Sl.dat (.int num), .dat (nat many), .own (.lst (rngD 0 ((many : Int) - 0).toNat)), _, _]
    rw [this]
    rfl
  · obtain ⟨_, rfl⟩ := rngD_get hd
    rw [Int.zero_add]
    exact g_name
  · rw [rngD_len] at hi
    have hi' : i < many := by omega
    have I := rkS_inv num many i (by omega)
    have hj := rkS_at I hi'
    have l1 := I.l1
    have l2 := I.l2
    have hlen : ((rkS num many i).1.map nat).length = (rkS num many i).1.length := List.length_map ..
    have h0 : 0 ≤ num / (1 + 7 * (i : Int)) % ((rkS num many i).1.length : Int) := Int.emod_nonneg _ (by omega)
    have he : EvD K (tOp (gMod) (tOp (gFdv) (tVar 0) (tOp (gAdd K) (tC (.int 1)) (tOp (gMul) (tC (.int 7)) (tVar 4)))) (tCB (rLen K) (tCons (tVar 2) tNil))) ((C i).set 4 (.dat (nat i))) (.int (((num / (1 + 7 * (i : Int)) % ((rkS num many i).1.length : Int)).toNat : Nat) : Int)) := by
      refine e_is (e_op (e_op (e_var rfl) (e_op e_int (e_op e_int (e_var rfl) (d_mulI (Or.inl (by decide)))) d_addI) (d_fdv (by omega) (by omega))) (e_look (i := 2) rfl (e_is (e_cb (s_cons (e_var rfl) s_nil) n_lenL) (by rw [hlen])) (by rfl)) (d_mod (by omega))) ?_
      rw [Int.toNat_of_nonneg h0]
    refine st_is (st_appPop (i := 3) (k := 2) (j := (num / (1 + 7 * (i : Int)) % ((rkS num many i).1.length : Int)).toNat) (d := nat ((rkS num many i).1.getD (num / (1 + 7 * (i : Int)) % ((rkS num many i).1.length : Int)).toNat 0)) (by decide) rfl rfl he ?_ ?_ ?_) ?_
    · rw [List.getElem?_map, List.getElem?_eq_getElem hj, List.getD_eq_getElem?_getD, List.getElem?_eq_getElem hj]
      rfl
    · rw [List.length_map]
      omega
    · rw [List.length_map]
      omega
    · show Out.nx [Sl.dat (.int num), .dat (nat many), .own (.lst (((rkS num many i).1.map nat).eraseIdx (num / (1 + 7 * (i : Int)) % ((rkS num many i).1.length : Int)).toNat)), .own (.lst ((rkS num many i).2.map nat ++ [nat ((rkS num many i).1.getD (num / (1 + 7 * (i : Int)) % ((rkS num many i).1.length : Int)).toNat 0)])), .dat (nat i)] = Out.nx [Sl.dat (.int num), .dat (nat many), .own (.lst (((rkS num many i).1.eraseIdx (num / (1 + 7 * (i : Int)) % ((rkS num many i).1.length : Int)).toNat).map nat)), .own (.lst (((rkS num many i).2 ++ [(rkS num many i).1.getD (num / (1 + 7 * (i : Int)) % ((rkS num many i).1.length : Int)).toNat 0]).map nat)), .dat (nat i)]
      have e1 : ∀ (l : List Nat) (j : Nat), (l.map nat).eraseIdx j = (l.eraseIdx j).map nat := by
        intro l
        induction l with
        | nil => intro j; rfl
        | cons a l ih =>
          intro j
          cases j with
          | zero => rfl
          | succ j =>
            show nat a :: (l.map nat).eraseIdx j = nat a :: (l.eraseIdx j).map nat
            rw [ih]
      rw [e1, List.map_append]
      rfl
theorem rd_l_goals (K : PySem.W.Frag) (Z : CF K c_Rail) {ds l : List D} (h : R_l_goals ds l) : StD K (t_l_goals K c_Rail) (args nm_l_goals.length ds) (.ro l) := by
  obtain ⟨num, e, r, many, rfl, h1, h6, hr, hf, rfl⟩ := h
  unfold t_l_goals
  refine st_seq (st_asgO (o_lst s_nil (by show 0 ≤ 100000; decide))) ?_
  let C : Nat → List Sl := fun k => [.dat (.int num), .dat (.int e), .dat (.int r), .dat (nat many), .own (.lst ((sq (goalAt num e r many) k).map goalD)), .no, .no, .no, .no]
  refine st_seq (G1 := C many) (st_for (it_rng1 (n := (many : Int)) (s_cons (e_var rfl) s_nil) (by omega)) C rfl (fun i => (C i).set 5 (.dat (nat i))) (fun i d hd => ?_)
    (fun i => .nx (((((C i).set 5 (.dat (nat i))).set 6 (.dat (.int ((i : Int) * r)))).set 7 (.dat (.int (e - ((many : Int) - 1 - (i : Int)) * r)))).set 8 (.dat (.lst ((goalL num e r many i).map goalD))) |>.set 4 (.own (.lst ((sq (goalAt num e r many) (i + 1)).map goalD))))) (fun i hi _ => ?_)
    (fun i hi => .inl ⟨_, .inl rfl, Wk.keep (Wk.keep (Wk.keep (Wk.keep (Wk.keep (Wk.drop (Wk.drop (Wk.drop (Wk.drop Wk.nil))))))))⟩) (fun _ => by rw [rngD_len]; rfl)) (st_retV (i := 4) rfl)
  · obtain ⟨_, rfl⟩ := rngD_get hd
    rw [Int.zero_add]
    exact g_name
  · rw [rngD_len] at hi
    have hi' : i < many := by omega
    have hpos : 0 < e - ((many : Int) - 1 - (i : Int)) * r - (i : Int) * r + 1 := by
      have : ((many : Int) - 1 - (i : Int)) * r + (i : Int) * r = ((many : Int) - 1) * r := by
        rw [← Int.add_mul]
        congr 1
        omega
      omega
    refine st_seq (st_par (a := .int ((i : Int) * r)) (b := .int (e - ((many : Int) - 1 - (i : Int)) * r)) (s_cons (e_op (e_var rfl) (e_var rfl) (d_mulI (Or.inr (by omega)))) (s_cons (e_op (e_var rfl) (e_op (e_op (e_op (e_var rfl) e_int d_subI) (e_var rfl) d_subI) (e_var rfl) (d_mulI (Or.inr (by omega)))) d_subI) s_nil))) ?_
    refine st_seq (st_asg (d := .lst ((goalL num e r many i).map goalD)) (e_share (o_lst (s_cons e_none (s_cons (e_var rfl) (s_cons (e_var rfl) (s_cons (e_op (e_var rfl) (e_op (e_op (e_var rfl) (e_op e_int (e_op e_int (e_var rfl) (d_mulI (Or.inl (by decide)))) d_addI) (d_fdv (by omega) (by omega))) (e_op (e_op (e_var rfl) (e_var rfl) d_subI) e_int d_addI) (d_mod hpos)) d_addI) s_nil)))) (by show 4 ≤ 100000; decide))) g_name) ?_
    have h0 : 0 ≤ num / (2 + 5 * (i : Int)) % 4 := Int.emod_nonneg _ (by decide)
    have h4 : num / (2 + 5 * (i : Int)) % 4 < 4 := Int.emod_lt_of_pos _ (by decide)
    refine st_is (st_app (i := 4) (d := goalD (goalAt num e r many i)) rfl (e_op (e_var rfl) (e_is (b := nat (num / (2 + 5 * (i : Int)) % 4).toNat) (e_op (e_op (e_var rfl) (e_op e_int (e_op e_int (e_var rfl) (d_mulI (Or.inl (by decide)))) d_addI) (d_fdv (by omega) (by omega))) e_int (d_mod (by decide))) (by unfold nat; rw [Int.toNat_of_nonneg h0])) (ixL (f := goalD) none (by show _ < 4; omega))) (by rw [List.length_map, sq_len]; omega)) ?_
    rw [sq_succ, List.map_append]
    rfl
/-! the law -/
def pwL : List Int := [1, 2, 4, 8, 16, 32]
theorem pwL_in : ∀ i : Nat, i < 6 → 0 < pwL.getD i 0 ∧ pwL.getD i 0 < 100 := by decide
def wksf (num : Int) (i : Nat) : Bool := decide (num / pwL.getD i 0 % 4 = 1)
def nxt (ns : List Int) (s : Int) (k : Nat) (ps : List Int) : List Int :=
  (due (rE ns s) (rR ns s) (rC ns s) ps (sq (wksf (mx ns (5 + (k : Int)))) (rN ns)) (sq (goalAt (mx ns (5 + (k : Int)) / 7) (rE ns s) (rR ns s) (rN ns)) (rN ns)) (ranks (mx ns (5 + (k : Int)) / 11) (rN ns))).map fun p => p.1
def plS (ns : List Int) (s : Int) : Nat → List Int
  | 0 => rP ns s
  | k + 1 => nxt ns s k (plS ns s k)
theorem hand_ok (ns : List Int) {s : Int} (hs : Scl s) (num : Int) {ps : List Int} (ap : Ap (rE ns s) (rR ns s) ps) (hl : ps.length = rN ns) : Hand (rE ns s) (rR ns s) (rC ns s) ps (sq (wksf num) (rN ns)) (sq (goalAt (num / 7) (rE ns s) (rR ns s) (rN ns)) (rN ns)) (ranks (num / 11) (rN ns)) := by
  have hc := rC_len ns s
  exact ⟨rail_ok ns hs, ap, by rw [hc, hl], by rw [hc, sq_len], by rw [hc, sq_len], by rw [hc, ranks_len], fun c h => by
    rw [hc]
    exact ranks_lt _ _ c h, fun i hi => by
    rw [hc] at hi
    obtain ⟨j, hj, e⟩ := ranks_all (num / 11) (rN ns) hi
    rw [← e]
    exact getD_in 0 _ j (by rw [ranks_len]; exact hj)⟩
theorem due_ap {e r : Int} {cr : List (Int × Int)} {ps : List Int} {ws : List Bool} {gs : List (Option Int)} {rk : List Nat} (hh : Hand e r cr ps ws gs rk) (hall : ∀ i, i < cr.length → ∃ j, j < rk.length ∧ rk.getD j 0 = i) :
    Ap e r ((due e r cr ps ws gs rk).map fun p => p.1) ∧ ((due e r cr ps ws gs rk).map fun p => p.1).length = ps.length := by
  have spn : Spn r e ps.length (sides e cr ps ws) := sides_spn hh.ok hh.ap hh.lp ws
  have hr : ∀ c ∈ rk, c < ps.length := fun c hc => by rw [hh.lp]; exact hh.hr c hc
  have hS : Spn r e ps.length (due e r cr ps ws gs rk) := fst_spn spn ps gs hr rk.length (Nat.le_refl _)
  refine ⟨spn_ap hS fun i hi => ?_, by rw [List.length_map, hS.len]⟩
  obtain ⟨j, hj, rfl⟩ := hall i (by rw [← hh.lp]; exact hi)
  exact fst_fix spn ps gs hr rk.length (Nat.le_refl _) j hj
theorem plS_ok (ns : List Int) {s : Int} (hs : Scl s) : ∀ k, Ap (rE ns s) (rR ns s) (plS ns s k) ∧ (plS ns s k).length = rN ns
  | 0 => ⟨rail_ap ns hs, rP_len ns s⟩
  | k + 1 => by
    obtain ⟨h1, h2⟩ := plS_ok ns hs k
    obtain ⟨h3, h4⟩ := due_ap (hand_ok ns hs (mx ns (5 + (k : Int))) h1 h2) (fun i hi => by
      rw [rC_len] at hi
      rw [ranks_len]
      exact ranks_all _ _ hi)
    exact ⟨h3, by rw [← h2]; exact h4⟩
theorem ok_goals (gs : List (Option Int)) {n : Nat} : okD (n + 1) (gsD gs) = true := by
  unfold gsD okD
  refine List.all_eq_true.mpr fun d hd => ?_
  obtain ⟨i, _, rfl⟩ := List.mem_map.mp hd
  cases i <;> cases n <;> (unfold goalD okD; rfl)
theorem ok_nats (rk : List Nat) {n : Nat} : okD (n + 1) (.lst (rk.map nat)) = true := by
  unfold okD
  refine List.all_eq_true.mpr fun d hd => ?_
  obtain ⟨i, _, rfl⟩ := List.mem_map.mp hd
  cases n <;> (unfold nat okD; rfl)
theorem loD_ints (S : PS) : loD S = (S.map fun p => p.1).map D.int := by
  unfold loD
  rw [List.map_map]
  rfl
theorem rd_law (K : PySem.W.Frag) (Z : CF K c_Rail) {ds : List D} {d : D} (h : R_law ds d) : StD K (t_law K c_Rail) (args nm_law.length ds) (.rt d) := by
  obtain ⟨ns, rfl, rfl⟩ := h
  have hn := rN_in ns
  have m4 : 0 ≤ mx ns 4 % 4 := Int.emod_nonneg _ (by decide)
  have m4' : mx ns 4 % 4 < 4 := Int.emod_lt_of_pos _ (by decide)
  obtain ⟨s, hs, hse⟩ : ∃ s, Scl s ∧ ([1, 1, 1000, 250000] : List Int).getD (mx ns 4 % 4).toNat 0 = s := by
    refine ⟨_, ?_, rfl⟩
    have : ∀ i : Nat, i < 4 → ([1, 1, 1000, 250000] : List Int).getD i 0 = 1 ∨ ([1, 1, 1000, 250000] : List Int).getD i 0 = 1000 ∨ ([1, 1, 1000, 250000] : List Int).getD i 0 = 250000 := by decide
    exact this _ (by omega)
  have hrR := rR_in ns hs
  have ok := rail_ok ns hs
  have hfit : ((rN ns : Int) - 1) * rR ns s ≤ rE ns s := by
    have := ok.fit
    rw [rC_len] at this
    exact this
  unfold t_law
  refine st_seq (st_asg (d := .int s) (e_is (e_op (e_is (b := .lst (([1, 1, 1000, 250000] : List Int).map D.int)) (e_share (o_lst (ds := [.int 1, .int 1, .int 1000, .int 250000]) (s_cons e_int (s_cons e_int (s_cons e_int (s_cons e_int s_nil)))) (by show 4 ≤ 100000; decide))) rfl) (e_op (e_mixed rfl (by decide)) e_int (d_mod (by decide))) (d_ixI m4 m4')) (by rw [hse])) g_name) ?_
  refine st_seq (st_asg (e_call (s_cons (e_var rfl) (s_cons (e_var rfl) s_nil)) ⟨ns, s, rfl, hs, rfl⟩) (g_tup (gs_cons g_name (gs_cons g_name (gs_cons g_name (gs_cons g_name gs_nil)))) rfl)) ?_
  refine st_seq (st_asg (d := .obj c_Rail (railFs (rE ns s) (rR ns s) (rC ns s))) (e_make (s_cons (e_var rfl) (s_cons (e_var rfl) (s_cons (e_share (o_cb (s_cons (e_var rfl) s_nil) n_listL)) s_nil))) ⟨rE ns s, rR ns s, rC ns s, rfl, ok, rfl⟩) g_name) ?_
  refine st_seq (st_asg (d := nat (rN ns)) (e_is (e_cb (s_cons (e_var rfl) s_nil) n_lenL) (by rw [List.length_map, rP_len]; rfl)) g_name) ?_
  let C : Nat → List Sl := fun k => [.dat (.scr ns), .dat (.int s), .dat (.int (rE ns s)), .dat (.int (rR ns s)), .dat (.lst ((rC ns s).map crD)), .dat (.lst ((plS ns s k).map D.int)), .dat (.obj c_Rail (railFs (rE ns s) (rR ns s) (rC ns s))), .dat (nat (rN ns)), .no, .no, .no, .no, .no, .no, .no, .no, .no, .no, .no]
  have hmax : max 6 (min (ns.length : Int) 63) ≤ 63 := by omega
  refine st_seq (G1 := C (max 6 (min (ns.length : Int) 63) - 5).toNat) (st_for (it_rng2 (lo := 5) (n := max 6 (min (ns.length : Int) 63)) (s_cons e_int (s_cons (e_cb (s_cons e_int (s_cons (e_cb (s_cons (e_cb (s_cons (e_var rfl) s_nil) n_lenR) (s_cons e_int s_nil)) n_min2) s_nil)) n_max2) s_nil)) (by omega)) C rfl (fun i => (C i).set 8 (.dat (.int (5 + (i : Int))))) (fun i d hd => ?_)
    (fun i => .nx (C (i + 1))) (fun k hk _ => ?_) (fun i hi => .inl ⟨_, .inl rfl, Wk.refl _⟩) (fun _ => by rw [rngD_len])) (st_ret e_bl)
  · obtain ⟨_, rfl⟩ := rngD_get hd
    exact g_name
  rw [rngD_len] at hk
  obtain ⟨hap, hpl⟩ := plS_ok ns hs k
  have hh := hand_ok ns hs (mx ns (5 + (k : Int))) hap hpl
  obtain ⟨hap2, hpl2⟩ := due_ap hh (fun i hi => by
    rw [rC_len] at hi
    rw [ranks_len]
    exact ranks_all _ _ hi)
  have hnext : plS ns s (k + 1) = (due (rE ns s) (rR ns s) (rC ns s) (plS ns s k) (sq (wksf (mx ns (5 + (k : Int)))) (rN ns)) (sq (goalAt (mx ns (5 + (k : Int)) / 7) (rE ns s) (rR ns s) (rN ns)) (rN ns)) (ranks (mx ns (5 + (k : Int)) / 11) (rN ns))).map fun p => p.1 := rfl
  show StD K _ _ (.nx [.dat (.scr ns), .dat (.int s), .dat (.int (rE ns s)), .dat (.int (rR ns s)), .dat (.lst ((rC ns s).map crD)), .dat (.lst ((plS ns s (k + 1)).map D.int)), .dat (.obj c_Rail (railFs (rE ns s) (rR ns s) (rC ns s))), .dat (nat (rN ns)), .no, .no, .no, .no, .no, .no, .no, .no, .no, .no, .no])
  rw [hnext]
  show StD K _ [.dat (.scr ns), .dat (.int s), .dat (.int (rE ns s)), .dat (.int (rR ns s)), .dat (.lst ((rC ns s).map crD)), .dat (.lst ((plS ns s k).map D.int)), .dat (.obj c_Rail (railFs (rE ns s) (rR ns s) (rC ns s))), .dat (nat (rN ns)), .dat (.int (5 + (k : Int))), .no, .no, .no, .no, .no, .no, .no, .no, .no, .no] _
  have hn63 : 5 + (k : Int) ≤ 1000 := by omega
  clear hnext
  generalize hps : plS ns s k = ps at hap hpl hh hap2 hpl2
  have hw : ∀ num, (sq (wksf num) (rN ns)).length = rN ns := fun num => sq_len _ _
  refine st_seq (st_asg (d := .int (mx ns (5 + (k : Int)))) (e_call (s_cons (e_var rfl) (s_cons (e_var rfl) s_nil)) ⟨ns, 5 + (k : Int), rfl, by omega, hn63, rfl⟩) g_name) ?_
  generalize mx ns (5 + (k : Int)) = num at hh hap2 hpl2
  refine st_seq (st_asg (d := wsD (sq (wksf num) (rN ns))) (e_is (e_share (o_lcM (fun d => match d with | .int j => .bl (wksf num j.toNat) | _ => .non) (it_rng1 (n := ((rN ns : Nat) : Int)) (s_cons (e_var rfl) s_nil) (by omega)) (by rw [rngD_len]; omega) (fun d hd => ?_))) ?_) g_name) ?_
  · obtain ⟨i, hi, rfl⟩ := rngD_mem hd
    rw [Int.zero_add]
    have hp := pwL_in i (by omega)
    exact e_op (e_op (e_op (e_var rfl) (e_op (e_is (b := .lst (pwL.map D.int)) (e_share (o_lst (ds := [.int 1, .int 2, .int 4, .int 8, .int 16, .int 32]) (s_cons e_int (s_cons e_int (s_cons e_int (s_cons e_int (s_cons e_int (s_cons e_int s_nil)))))) (by show 6 ≤ 100000; decide))) rfl) (e_var rfl) (ixI (ns := pwL) (by show _ < 6; omega))) (d_fdv hp.1 (by omega))) e_int (d_mod (by decide))) e_int d_eqI
  · unfold wsD rngD sq
    rw [List.map_map, List.map_map]
    have e : (((rN ns : Nat) : Int)).toNat = rN ns := by omega
    rw [e]
    congr 1
    refine List.map_congr_left fun i _ => ?_
    show D.bl (wksf num (0 + (i : Int)).toNat) = D.bl (wksf num i)
    rw [Int.zero_add]
    rfl
  generalize sq (wksf num) (rN ns) = ws at hh hap2 hpl2
  refine st_seq (st_asg (d := gsD (sq (goalAt (num / 7) (rE ns s) (rR ns s) (rN ns)) (rN ns))) (e_share (o_call (s_cons (e_op (e_var rfl) e_int (d_fdv (by decide) (by decide))) (s_cons (e_var rfl) (s_cons (e_var rfl) (s_cons (e_var rfl) s_nil)))) ⟨num / 7, rE ns s, rR ns s, rN ns, rfl, hn.1, hn.2.1, ⟨hrR.1, hrR.2.1⟩, hfit, rfl⟩)) g_name) ?_
  generalize sq (goalAt (num / 7) (rE ns s) (rR ns s) (rN ns)) (rN ns) = gs at hh hap2 hpl2
  refine st_seq (st_asg (d := .lst ((ranks (num / 11) (rN ns)).map nat)) (e_share (o_call (s_cons (e_op (e_var rfl) e_int (d_fdv (by decide) (by decide))) (s_cons (e_var rfl) s_nil)) ⟨num / 11, rN ns, rfl, hn.1, hn.2.1, rfl⟩)) g_name) ?_
  generalize ranks (num / 11) (rN ns) = rk at hh hap2 hpl2
  refine st_seq (st_asg (d := .lst [.lst (ps.map D.int), wsD ws, gsD gs, .lst (rk.map nat)]) (e_share (o_lst (s_cons (e_share (o_cb (s_cons (e_var rfl) s_nil) n_listL)) (s_cons (e_share (o_cb (s_cons (e_var rfl) s_nil) n_listL)) (s_cons (e_share (o_cb (s_cons (e_var rfl) s_nil) n_listL)) (s_cons (e_share (o_cb (s_cons (e_var rfl) s_nil) n_listL)) s_nil)))) (by show 4 ≤ 100000; decide))) g_name) ?_
  refine st_seq (st_asg (d := .lst (loD (due (rE ns s) (rR ns s) (rC ns s) ps ws gs rk))) (e_share (o_call (s_cons (e_tup (s_cons (e_var rfl) (s_cons (e_var rfl) (s_cons (e_var rfl) s_nil))) (by show 3 ≤ 100000; decide)) (s_cons (e_var rfl) (s_cons (e_var rfl) (s_cons (e_var rfl) (s_cons (e_var rfl) s_nil))))) ⟨rE ns s, rR ns s, rC ns s, ps, ws, gs, rk, rfl, hh, rfl⟩)) g_name) ?_
  have hlo : loD (due (rE ns s) (rR ns s) (rC ns s) ps ws gs rk) = ((due (rE ns s) (rR ns s) (rC ns s) ps ws gs rk).map fun p => p.1).map D.int := loD_ints _
  have hmv : ∀ G : List Sl, True := fun _ => trivial
  let B : List Sl := [.dat (.scr ns), .dat (.int s), .dat (.int (rE ns s)), .dat (.int (rR ns s)), .dat (.lst ((rC ns s).map crD)), .dat (.lst (ps.map D.int)), .dat (.obj c_Rail (railFs (rE ns s) (rR ns s) (rC ns s))), .dat (nat (rN ns)), .dat (.int (5 + (k : Int))), .dat (.int num), .dat (wsD ws), .no, .dat (gsD gs), .dat (.lst (rk.map nat)), .dat (.lst [.lst (ps.map D.int), wsD ws, gsD gs, .lst (rk.map nat)]), .dat (.lst (loD (due (rE ns s) (rR ns s) (rC ns s) ps ws gs rk))), .no, .no, .no]
  show StD K _ B _
  have hdl : (loD (due (rE ns s) (rR ns s) (rC ns s) ps ws gs rk)).length ≤ 6 := by
    rw [hlo, List.length_map, hpl2]
    have := hh.ok.c2
    have := hh.lp
    omega
  refine st_seq (G1 := B) (st_for (it_rng1 (n := 2) (s_cons e_int s_nil) (by decide)) (fun _ => B) rfl (fun i => B.set 16 (.dat (.int (i : Int)))) (fun i d hd => ?_)
    (fun i => .nx ((B.set 16 (.dat (.int (i : Int)))).set 17 (.own (.lst (loD (due (rE ns s) (rR ns s) (rC ns s) ps ws gs rk) ++ [.int 0]))))) (fun i hi _ => ?_)
    (fun i hi => .inl ⟨_, .inl rfl, Wk.keep (Wk.keep (Wk.keep (Wk.keep (Wk.keep (Wk.keep (Wk.keep (Wk.keep (Wk.keep (Wk.keep (Wk.keep (Wk.keep (Wk.keep (Wk.keep (Wk.keep (Wk.keep (Wk.drop (Wk.drop (Wk.keep Wk.nil))))))))))))))))))⟩) (fun _ => rfl)) ?_
  · obtain ⟨_, rfl⟩ := rngD_get hd
    rw [Int.zero_add]
    exact g_name
  · have hix : ∀ {G : List Sl} {j : Int} {d : D}, G[14]? = some (.dat (.lst [.lst (ps.map D.int), wsD ws, gsD gs, .lst (rk.map nat)])) → atI [D.lst (ps.map D.int), wsD ws, gsD gs, .lst (rk.map nat)] j = some d → EvD K (tOp (gIx K) (tVar 14) (tC (.int j))) G d := fun hg hj => e_op (e_var hg) e_int (d_ixL hj)
    refine st_seq (st_asgO (o_call (s_cons (e_var rfl) (s_cons (hix rfl rfl) (s_cons (hix rfl rfl) (s_cons (hix rfl rfl) (s_cons (hix rfl rfl) s_nil))))) ⟨rE ns s, rR ns s, rC ns s, ps, ws, gs, rk, rfl, hh, rfl⟩)) ?_
    refine st_pass (t_peek (i := 17) rfl (t_is (t_or (t_not (t_B (e_isL (e_var rfl) rfl))) (fun _ => t_or (t_test (e_op (e_var rfl) (e_var rfl) (d_sameN (n := 1) ?_ (by decide)))) (fun _ => t_test (e_op (e_is (b := .lst []) (e_share (o_lcF isB id (it_list (e_var rfl)) ?_ (fun d hd => ?_) (fun d hd _ => e_var rfl))) ?_) (e_share (o_lst s_nil (by show 0 ≤ 100000; decide))) (d_sameN (n := 1) (by unfold okD; rfl) (by decide)))))) (by rfl))) (st_is (st_app (i := 17) rfl e_int (by omega)) ?_)
    · rw [hlo]
      exact ok_ints _
    · omega
    · obtain ⟨p, _, rfl⟩ := List.mem_map.mp hd
      exact t_B (e_isB (e_var rfl) rfl)
    · have : (loD (due (rE ns s) (rR ns s) (rC ns s) ps ws gs rk)).filter isB = [] := by
        rw [List.filter_eq_nil_iff]
        intro d hd
        obtain ⟨p, _, rfl⟩ := List.mem_map.mp hd
        exact Bool.false_ne_true
      rw [this]
      rfl
    · rfl
  refine st_pass (t_is (t_or (t_test (e_op (e_var rfl) (e_share (o_lst (s_cons (e_var rfl) (s_cons (e_var rfl) (s_cons (e_var rfl) (s_cons (e_var rfl) s_nil)))) (by show 4 ≤ 100000; decide))) (d_sameN (n := 2) ?_ (by decide)))) (fun _ => t_not (t_B (e_meth (d := .bl true) (e_var rfl) (by rfl) (s_cons (e_var rfl) s_nil) ⟨rE ns s, rR ns s, rC ns s, _, by rw [hlo], hh.ok, hap2, by rw [hpl2, hh.lp], rfl⟩)))) (by rfl)) ?_
  · unfold okD
    rw [List.all_cons, List.all_cons, List.all_cons, List.all_cons, ok_ints, ok_goals, ok_nats]
    unfold wsD
    rw [ok_bls]
    rfl
  · rw [← hlo]
    exact st_weak (st_asg (e_var rfl) g_name) (Wk.keep (Wk.keep (Wk.keep (Wk.keep (Wk.keep (Wk.keep (Wk.keep (Wk.keep (Wk.drop (Wk.drop (Wk.drop (Wk.drop (Wk.drop (Wk.drop (Wk.drop (Wk.drop (Wk.drop (Wk.drop (Wk.drop Wk.nil)))))))))))))))))))
theorem law_end {K : PySem.W.Frag} {H : Hp} {a : Addr} {ns : List Int} (hl : ns.length ≤ 63) (hS : SqL K H a (ns.map V.int)) : sp_law K [.ref a] H (fun v _ => v = .bl true) fun _ _ _ => False := law_endD hS ⟨ns, rfl, rfl⟩

end

end L05

set_option Elab.async false
set_option linter.all false
set_option maxRecDepth 100000
set_option maxHeartbeats 4000000
namespace L05
open PySem
open L2 hiding rLen
open Evl Cy TL Wp
/-- what the top has written -/
structure Tx (K : PySem.W.Frag) (mg : Str → Option Value) where
  c_Rail : Addr
  a_moved : Addr
  d_moved : FuncData
  F_moved : Fun K "moved" "moved" s_moved a_moved d_moved
  m_moved : mg "moved" = some (.ref a_moved)
  a_lows : Addr
  d_lows : FuncData
  F_lows : Fun K "_lows" "_lows" s_lows a_lows d_lows
  m_lows : mg "_lows" = some (.ref a_lows)
  a_highs : Addr
  d_highs : FuncData
  F_highs : Fun K "_highs" "_highs" s_highs a_highs d_highs
  m_highs : mg "_highs" = some (.ref a_highs)
  a_settle : Addr
  d_settle : FuncData
  F_settle : Fun K "_settle" "_settle" s_settle a_settle d_settle
  m_settle : mg "_settle" = some (.ref a_settle)
  a_is_among : Addr
  d_is_among : FuncData
  F_is_among : Fun K "is_among" "is_among" s_is_among a_is_among d_is_among
  m_is_among : mg "is_among" = some (.ref a_is_among)
  a_Rail_init : Addr
  d_Rail_init : FuncData
  F_Rail_init : Fun K "__init__" "Rail.__init__" s_Rail_init a_Rail_init d_Rail_init
  mk_Rail : Mk K c_Rail a_Rail_init
  a_Rail_are_apart : Addr
  d_Rail_are_apart : FuncData
  F_Rail_are_apart : Fun K "are_apart" "Rail.are_apart" s_Rail_are_apart a_Rail_are_apart d_Rail_are_apart
  me_Rail_are_apart : Meth K c_Rail "are_apart" a_Rail_are_apart
  a_is_rail : Addr
  d_is_rail : FuncData
  F_is_rail : Fun K "_is_rail" "_is_rail" s_is_rail a_is_rail d_is_rail
  m_is_rail : mg "_is_rail" = some (.ref a_is_rail)
  a_is_crane : Addr
  d_is_crane : FuncData
  F_is_crane : Fun K "_is_crane" "_is_crane" s_is_crane a_is_crane d_is_crane
  m_is_crane : mg "_is_crane" = some (.ref a_is_crane)
  a_l_cell_at : Addr
  d_l_cell_at : FuncData
  F_l_cell_at : Fun K "_law_cell_at" "_law_cell_at" s_l_cell_at a_l_cell_at d_l_cell_at
  m_l_cell_at : mg "_law_cell_at" = some (.ref a_l_cell_at)
  a_l_mixed : Addr
  d_l_mixed : FuncData
  F_l_mixed : Fun K "_law_mixed" "_law_mixed" s_l_mixed a_l_mixed d_l_mixed
  m_l_mixed : mg "_law_mixed" = some (.ref a_l_mixed)
  a_l_rail : Addr
  d_l_rail : FuncData
  F_l_rail : Fun K "_law_rail" "_law_rail" s_l_rail a_l_rail d_l_rail
  m_l_rail : mg "_law_rail" = some (.ref a_l_rail)
  a_l_ranks : Addr
  d_l_ranks : FuncData
  F_l_ranks : Fun K "_law_ranks" "_law_ranks" s_l_ranks a_l_ranks d_l_ranks
  m_l_ranks : mg "_law_ranks" = some (.ref a_l_ranks)
  a_l_goals : Addr
  d_l_goals : FuncData
  F_l_goals : Fun K "_law_goals" "_law_goals" s_l_goals a_l_goals d_l_goals
  m_l_goals : mg "_law_goals" = some (.ref a_l_goals)
  a_l_ends : Addr
  d_l_ends : FuncData
  F_l_ends : Fun K "_law_ends" "_law_ends" s_l_ends a_l_ends d_l_ends
  m_l_ends : mg "_law_ends" = some (.ref a_l_ends)
  a_l_due : Addr
  d_l_due : FuncData
  F_l_due : Fun K "_law_due" "_law_due" s_l_due a_l_due d_l_due
  m_l_due : mg "_law_due" = some (.ref a_l_due)
  a_law : Addr
  d_law : FuncData
  F_law : Fun K "law" "law" s_law a_law d_law
  m_law : mg "law" = some (.ref a_law)
  g_Rail : mg "Rail" = some (.ref c_Rail)
  Z : CF K c_Rail
  b_all : mg "all" = none
  b_bool : mg "bool" = none
  b_enumerate : mg "enumerate" = none
  b_int : mg "int" = none
  b_isinstance : mg "isinstance" = none
  b_len : mg "len" = none
  b_list : mg "list" = none
  b_max : mg "max" = none
  b_min : mg "min" = none
  b_range : mg "range" = none
  b_reversed : mg "reversed" = none
  b_tuple : mg "tuple" = none
  b_zip : mg "zip" = none
  k_GREATEST_END : Tok
  c_GREATEST_END : mg "GREATEST_END" = some (.int 1000000000000 k_GREATEST_END)
  k_GREATEST_HOIST : Tok
  c_GREATEST_HOIST : mg "GREATEST_HOIST" = some (.int 1000 k_GREATEST_HOIST)
  k_GREATEST_ROOM : Tok
  c_GREATEST_ROOM : mg "GREATEST_ROOM" = some (.int 1000000 k_GREATEST_ROOM)
  k_GREATEST_SPEED : Tok
  c_GREATEST_SPEED : mg "GREATEST_SPEED" = some (.int 1000000000 k_GREATEST_SPEED)
  k_MOST_CRANES : Tok
  c_MOST_CRANES : mg "MOST_CRANES" = some (.int 6 k_MOST_CRANES)
section
variable {P : Program} {w : World} {K : PySem.W.Frag} {mg : Str → Option Value} {base : Heap}
theorem bd_lows (T : Tx K mg) : Binds K T.d_lows ["rail", "places", "at_work"] [] := T.F_lows.binds (ps := ["rail", "places", "at_work"]) fun _ _ _ _ _ _ us hl => match us, hl with | [_, _, _], _ => rfl
theorem ok_lows (T : Tx K mg) : FnOk P w K mg base CX0 1 T.a_lows T.d_lows ["rail", "places", "at_work"] (sp_lows K T.c_Rail) := by
  refine T.F_lows.ok sc_lows (fun vs H Q E h => len_lows h) (fun cdv A outer s H vs Q E hr h => ?_)
  refine ⟨t_lows K T.c_Rail, ?_, body_O (N := nm_lows) h (fun ds d hR => by rw [ln_lows hR]; decide) (fun ds d hR => rd_lows K T.Z hR)⟩
  exact (pss_cons (ps_set (i := 3) sc_lows.nd rfl (by first | exact Or.inl rfl | exact Or.inr rfl) (pe_lst pa_nil))
  (pss_cons (ps_set (i := 4) sc_lows.nd rfl (by first | exact Or.inl rfl | exact Or.inr rfl) (pe_int))
  (pss_cons (ps_for PassesOwn.never rfl (pi_zip3 (by rfl) T.b_zip (pa_cons (pv 1) (pa_cons (pv 2) (pa_cons (pe_fld (pv 0) rfl) pa_nil)))) (pg_tup rfl (pgs_cons (pg_name (i := 5) sc_lows.nd rfl (by first | exact Or.inl rfl | exact Or.inr rfl)) (pgs_cons (pg_name (i := 6) sc_lows.nd rfl (by first | exact Or.inl rfl | exact Or.inr rfl)) (pgs_cons (pg_tup rfl (pgs_cons (pg_name (i := 7) sc_lows.nd rfl (by first | exact Or.inl rfl | exact Or.inr rfl)) (pgs_cons (pg_name (i := 8) sc_lows.nd rfl (by first | exact Or.inl rfl | exact Or.inr rfl)) pgs_nil))) pgs_nil)))) (pss_cons (ps_set (i := 9) sc_lows.nd rfl (by first | exact Or.inl rfl | exact Or.inr rfl) (pe_callB (call_gMax rfl) (by rfl) T.b_max (by decide +kernel) (pa_cons (pv 4) (pa_cons (pe_ifExp (pt_val (pv 6)) (pv 5) (pe_op op_gSub (pv 5) (pv 7))) pa_nil))))
  (pss_cons (ps_expr (pe_bm PySem.F.plainAttrs_list PySem.F.slot_list_append PySem.F.type_list_append mt_append (pv 3) (pa_cons (pv 9) pa_nil)))
  (pss_one (ps_set (i := 4) sc_lows.nd rfl (by first | exact Or.inl rfl | exact Or.inr rfl) (pe_op op_gAdd (pv 9) (pe_fld (pv 0) rfl)))))))
  (pss_one (ps_ret (pv 3))))))
theorem bd_highs (T : Tx K mg) : Binds K T.d_highs ["rail", "places", "at_work"] [] := T.F_highs.binds (ps := ["rail", "places", "at_work"]) fun _ _ _ _ _ _ us hl => match us, hl with | [_, _, _], _ => rfl
theorem ok_highs (T : Tx K mg) : FnOk P w K mg base CX0 1 T.a_highs T.d_highs ["rail", "places", "at_work"] (sp_highs K T.c_Rail) := by
  refine T.F_highs.ok sc_highs (fun vs H Q E h => len_highs h) (fun cdv A outer s H vs Q E hr h => ?_)
  refine ⟨t_highs K T.c_Rail, ?_, body_O (N := nm_highs) h (fun ds d hR => by rw [ln_highs hR]; decide) (fun ds d hR => rd_highs K T.Z hR)⟩
  exact (pss_cons (ps_set (i := 3) sc_highs.nd rfl (by first | exact Or.inl rfl | exact Or.inr rfl) (pe_lst pa_nil))
  (pss_cons (ps_set (i := 4) sc_highs.nd rfl (by first | exact Or.inl rfl | exact Or.inr rfl) (pe_fld (pv 0) rfl))
  (pss_cons (ps_for PassesOwn.never rfl (pi_range3 (by rfl) T.b_range (pa_cons (pe_op op_gSub (pe_callB call_gLen (by rfl) T.b_len (by decide +kernel) (pa_cons (pv 1) pa_nil)) (pe_int)) (pa_cons (pe_un un_neg (pe_int)) (pa_cons (pe_un un_neg (pe_int)) pa_nil)))) (pg_name (i := 5) sc_highs.nd rfl (by first | exact Or.inl rfl | exact Or.inr rfl)) (pss_cons (ps_set (i := 6) sc_highs.nd rfl (by first | exact Or.inl rfl | exact Or.inr rfl) (pe_ifExp (pt_val (pe_ix ix_seq (pv 2) (pv 5) (fun _ _ => rfl))) (pe_int) (pe_ix ix_seq (pe_ix ix_seq (pe_fld (pv 0) rfl) (pv 5) (fun _ _ => rfl)) (pe_int) (fun _ _ => rfl))))
  (pss_cons (ps_set (i := 7) sc_highs.nd rfl (by first | exact Or.inl rfl | exact Or.inr rfl) (pe_callB (call_gMin rfl) (by rfl) T.b_min (by decide +kernel) (pa_cons (pv 4) (pa_cons (pe_op op_gAdd (pe_ix ix_seq (pv 1) (pv 5) (fun _ _ => rfl)) (pv 6)) pa_nil))))
  (pss_cons (ps_expr (pe_bm PySem.F.plainAttrs_list PySem.F.slot_list_append PySem.F.type_list_append mt_append (pv 3) (pa_cons (pv 7) pa_nil)))
  (pss_one (ps_set (i := 4) sc_highs.nd rfl (by first | exact Or.inl rfl | exact Or.inr rfl) (pe_op op_gSub (pv 7) (pe_fld (pv 0) rfl))))))))
  (pss_cons (ps_expr (pe_bm0 PySem.F.plainAttrs_list PySem.F.slot_list_reverse PySem.F.type_list_reverse mt_reverse (pv 3)))
  (pss_one (ps_ret (pv 3)))))))
theorem bd_settle (T : Tx K mg) : Binds K T.d_settle ["lows", "highs", "room", "crane", "place"] [] := T.F_settle.binds (ps := ["lows", "highs", "room", "crane", "place"]) fun _ _ _ _ _ _ us hl => match us, hl with | [_, _, _, _, _], _ => rfl
theorem ok_settle (T : Tx K mg) : FnOk P w K mg base CX0 1 T.a_settle T.d_settle ["lows", "highs", "room", "crane", "place"] (sp_settle K T.c_Rail) := by
  refine T.F_settle.ok sc_settle (fun vs H Q E h => len_settle h) (fun cdv A outer s H vs Q E hr h => ?_)
  refine ⟨t_settle K T.c_Rail, ?_, body_WM0 (b := p_settle K T.Z) (N := nm_settle) h (fun ds M P hR => by rw [ln_settle hR]; decide) settle_exc (fun ds M P hR => rd_settle T.Z hR)⟩
  exact (pss_cons (ps_asg (pv 4) (pg_sub (pv 0) (pv 3) set_list))
  (pss_cons (ps_asg (pv 4) (pg_sub (pv 1) (pv 3) set_list))
  (pss_cons (ps_for PassesOwn.never rfl (pi_range2 (by rfl) T.b_range (pa_cons (pe_op op_gAdd (pv 3) (pe_int)) (pa_cons (pe_callB call_gLen (by rfl) T.b_len (by decide +kernel) (pa_cons (pv 0) pa_nil)) pa_nil))) (pg_name (i := 5) sc_settle.nd rfl (by first | exact Or.inl rfl | exact Or.inr rfl)) (pss_cons (ps_if (pt_cmpR op_gGe (pe_ix ix_seq (pv 0) (pv 5) (fun _ _ => rfl)) (pe_op op_gAdd (pe_ix ix_seq (pv 0) (pe_op op_gSub (pv 5) (pe_int)) (fun _ _ => rfl)) (pv 2)) (nomark _)) (pss_one (ps_break)) pss_nil)
  (pss_one (ps_asg (pe_op op_gAdd (pe_ix ix_seq (pv 0) (pe_op op_gSub (pv 5) (pe_int)) (fun _ _ => rfl)) (pv 2)) (pg_sub (pv 0) (pv 5) set_list)))))
  (pss_one (ps_for PassesOwn.never rfl (pi_range3 (by rfl) T.b_range (pa_cons (pe_op op_gSub (pv 3) (pe_int)) (pa_cons (pe_un un_neg (pe_int)) (pa_cons (pe_un un_neg (pe_int)) pa_nil)))) (pg_name (i := 5) sc_settle.nd rfl (by first | exact Or.inl rfl | exact Or.inr rfl)) (pss_cons (ps_if (pt_cmpR op_gLe (pe_ix ix_seq (pv 1) (pv 5) (fun _ _ => rfl)) (pe_op op_gSub (pe_ix ix_seq (pv 1) (pe_op op_gAdd (pv 5) (pe_int)) (fun _ _ => rfl)) (pv 2)) (nomark _)) (pss_one (ps_break)) pss_nil)
  (pss_one (ps_asg (pe_op op_gSub (pe_ix ix_seq (pv 1) (pe_op op_gAdd (pv 5) (pe_int)) (fun _ _ => rfl)) (pv 2)) (pg_sub (pv 1) (pv 5) set_list)))))))))
theorem bd_is_among (T : Tx K mg) : Binds K T.d_is_among ["thing", "least", "most"] [] := T.F_is_among.binds (ps := ["thing", "least", "most"]) fun _ _ _ _ _ _ us hl => match us, hl with | [_, _, _], _ => rfl
theorem ok_is_among (T : Tx K mg) : FnOk P w K mg base CX0 1 T.a_is_among T.d_is_among ["thing", "least", "most"] (sp_is_among K T.c_Rail) := by
  refine T.F_is_among.ok sc_is_among (fun vs H Q E h => len_is_among h) (fun cdv A outer s H vs Q E hr h => ?_)
  refine ⟨t_is_among K T.c_Rail, ?_, body_D (N := nm_is_among) h (fun ds d hR => by rw [ln_is_among hR]; decide) (fun ds d hR => rd_is_among K T.Z hR)⟩
  exact (pss_cons (ps_if (PW.pt (pw_or (pt_not (pt_val (pe_callB call_isi (by rfl) T.b_isinstance (by decide +kernel) (pa_cons (pv 0) (pa_cons (pe_bltn (v := .ty "int") (by rfl) T.b_int (by decide +kernel) rfl) pa_nil))))) (pw_or1 (pt_val (pe_callB call_isi (by rfl) T.b_isinstance (by decide +kernel) (pa_cons (pv 0) (pa_cons (pe_bltn (v := .ty "bool") (by rfl) T.b_bool (by decide +kernel) rfl) pa_nil))))))) (pss_one (ps_ret (pe_bl))) pss_nil)
  (pss_one (ps_ret (pe_chain op_gLe op_gLe (pv 1) (pv 0) (pv 2)))))
theorem bd_l_cell_at (T : Tx K mg) : Binds K T.d_l_cell_at ["_law_script", "_law_k"] [] := T.F_l_cell_at.binds (ps := ["_law_script", "_law_k"]) fun _ _ _ _ _ _ us hl => match us, hl with | [_, _], _ => rfl
theorem ok_l_cell_at (T : Tx K mg) : FnOk P w K mg base CX0 1 T.a_l_cell_at T.d_l_cell_at ["_law_script", "_law_k"] (sp_l_cell_at K T.c_Rail) := by
  refine T.F_l_cell_at.ok sc_l_cell_at (fun vs H Q E h => len_l_cell_at h) (fun cdv A outer s H vs Q E hr h => ?_)
  refine ⟨t_l_cell_at K T.c_Rail, ?_, body_D (N := nm_l_cell_at) h (fun ds d hR => by rw [ln_l_cell_at hR]; decide) (fun ds d hR => rd_l_cell_at K T.Z hR)⟩
  exact (pss_cons (ps_if (pt_cmpR op_gLt (pv 1) (pe_callB call_gLen (by rfl) T.b_len (by decide +kernel) (pa_cons (pv 0) pa_nil)) (nomark _)) (pss_one (ps_ret (pe_ix ix_seq (pv 0) (pv 1) (fun _ _ => rfl)))) pss_nil)
  (pss_one (ps_ret (pe_int))))
theorem bd_l_ranks (T : Tx K mg) : Binds K T.d_l_ranks ["_law_number", "_law_many"] [] := T.F_l_ranks.binds (ps := ["_law_number", "_law_many"]) fun _ _ _ _ _ _ us hl => match us, hl with | [_, _], _ => rfl
theorem ok_l_ranks (T : Tx K mg) : FnOk P w K mg base CX0 1 T.a_l_ranks T.d_l_ranks ["_law_number", "_law_many"] (sp_l_ranks K T.c_Rail) := by
  refine T.F_l_ranks.ok sc_l_ranks (fun vs H Q E h => len_l_ranks h) (fun cdv A outer s H vs Q E hr h => ?_)
  refine ⟨t_l_ranks K T.c_Rail, ?_, body_O (N := nm_l_ranks) h (fun ds d hR => by rw [ln_l_ranks hR]; decide) (fun ds d hR => rd_l_ranks K T.Z hR)⟩
  exact (pss_cons (ps_set (i := 2) sc_l_ranks.nd rfl (by first | exact Or.inl rfl | exact Or.inr rfl) (pe_listRg rfl (by rfl) T.b_list (prg_1 (by rfl) T.b_range (pv 1))))
  (pss_cons (ps_set (i := 3) sc_l_ranks.nd rfl (by first | exact Or.inl rfl | exact Or.inr rfl) (pe_lst pa_nil))
  (pss_cons (ps_for PassesOwn.never rfl (pi_range1 (by rfl) T.b_range (pa_cons (pv 1) pa_nil)) (pg_name (i := 4) sc_l_ranks.nd rfl (by first | exact Or.inl rfl | exact Or.inr rfl)) (pss_one (ps_expr (pe_bm PySem.F.plainAttrs_list PySem.F.slot_list_append PySem.F.type_list_append mt_append (pv 3) (pa_cons (pe_bm PySem.F.plainAttrs_list PySem.F.slot_list_pop PySem.F.type_list_pop mt_popAt (pv 2) (pa_cons (pe_op op_gMod (pe_op op_gFdv (pv 0) (pe_op op_gAdd (pe_int) (pe_op op_gMul (pe_int) (pv 4)))) (pe_callB call_gLen (by rfl) T.b_len (by decide +kernel) (pa_cons (pv 2) pa_nil))) pa_nil)) pa_nil)))))
  (pss_one (ps_ret (pv 3))))))
theorem bd_l_goals (T : Tx K mg) : Binds K T.d_l_goals ["_law_number", "_law_end", "_law_room", "_law_many"] [] := T.F_l_goals.binds (ps := ["_law_number", "_law_end", "_law_room", "_law_many"]) fun _ _ _ _ _ _ us hl => match us, hl with | [_, _, _, _], _ => rfl
theorem ok_l_goals (T : Tx K mg) : FnOk P w K mg base CX0 1 T.a_l_goals T.d_l_goals ["_law_number", "_law_end", "_law_room", "_law_many"] (sp_l_goals K T.c_Rail) := by
  refine T.F_l_goals.ok sc_l_goals (fun vs H Q E h => len_l_goals h) (fun cdv A outer s H vs Q E hr h => ?_)
  refine ⟨t_l_goals K T.c_Rail, ?_, body_O (N := nm_l_goals) h (fun ds d hR => by rw [ln_l_goals hR]; decide) (fun ds d hR => rd_l_goals K T.Z hR)⟩
  exact (pss_cons (ps_set (i := 4) sc_l_goals.nd rfl (by first | exact Or.inl rfl | exact Or.inr rfl) (pe_lst pa_nil))
  (pss_cons (ps_for PassesOwn.never rfl (pi_range1 (by rfl) T.b_range (pa_cons (pv 3) pa_nil)) (pg_name (i := 5) sc_l_goals.nd rfl (by first | exact Or.inl rfl | exact Or.inr rfl)) (pss_cons (ps_par (i := 6) (j := 7) (by rfl) sc_l_goals.nd rfl rfl (by decide) rfl rfl (pa_cons (pe_op op_gMul (pv 5) (pv 2)) (pa_cons (pe_op op_gSub (pv 1) (pe_op op_gMul (pe_op op_gSub (pe_op op_gSub (pv 3) (pe_int)) (pv 5)) (pv 2))) pa_nil)) (by rfl))
  (pss_cons (ps_set (i := 8) sc_l_goals.nd rfl (by first | exact Or.inl rfl | exact Or.inr rfl) (pe_lst (pa_cons (pe_non) (pa_cons (pv 6) (pa_cons (pv 7) (pa_cons (pe_op op_gAdd (pv 6) (pe_op op_gMod (pe_op op_gFdv (pv 0) (pe_op op_gAdd (pe_int) (pe_op op_gMul (pe_int) (pv 5)))) (pe_op op_gAdd (pe_op op_gSub (pv 7) (pv 6)) (pe_int)))) pa_nil))))))
  (pss_one (ps_expr (pe_bm PySem.F.plainAttrs_list PySem.F.slot_list_append PySem.F.type_list_append mt_append (pv 4) (pa_cons (pe_ix ix_seq (pv 8) (pe_op op_gMod (pe_op op_gFdv (pv 0) (pe_op op_gAdd (pe_int) (pe_op op_gMul (pe_int) (pv 5)))) (pe_int)) (fun _ _ => rfl)) pa_nil)))))))
  (pss_one (ps_ret (pv 4)))))
theorem bd_l_ends (T : Tx K mg) : Binds K T.d_l_ends ["_law_room", "_law_sides", "_law_crane"] [] := T.F_l_ends.binds (ps := ["_law_room", "_law_sides", "_law_crane"]) fun _ _ _ _ _ _ us hl => match us, hl with | [_, _, _], _ => rfl
theorem ok_l_ends (T : Tx K mg) : FnOk P w K mg base CX0 1 T.a_l_ends T.d_l_ends ["_law_room", "_law_sides", "_law_crane"] (sp_l_ends K T.c_Rail) := by
  refine T.F_l_ends.ok sc_l_ends (fun vs H Q E h => len_l_ends h) (fun cdv A outer s H vs Q E hr h => ?_)
  refine ⟨t_l_ends K T.c_Rail, ?_, body_D (N := nm_l_ends) h (fun ds d hR => by rw [ln_l_ends hR]; decide) (fun ds d hR => rd_l_ends K T.Z hR)⟩
  exact (pss_cons (ps_set (i := 3) sc_l_ends.nd rfl (by first | exact Or.inl rfl | exact Or.inr rfl) (pe_non))
  (pss_cons (ps_for PassesOwn.never rfl (pi_range1 (by rfl) T.b_range (pa_cons (pe_op op_gAdd (pv 2) (pe_int)) pa_nil)) (pg_name (i := 4) sc_l_ends.nd rfl (by first | exact Or.inl rfl | exact Or.inr rfl)) (pss_one (ps_set (i := 3) sc_l_ends.nd rfl (by first | exact Or.inl rfl | exact Or.inr rfl) (pe_ifExp (pt_cmpR op_gIs (pv 3) (pe_non) (nomark _)) (pe_ix ix_seq (pe_ix ix_seq (pv 1) (pv 4) (fun _ _ => rfl)) (pe_int) (fun _ _ => rfl)) (pe_callB (call_gMax rfl) (by rfl) T.b_max (by decide +kernel) (pa_cons (pe_ix ix_seq (pe_ix ix_seq (pv 1) (pv 4) (fun _ _ => rfl)) (pe_int) (fun _ _ => rfl)) (pa_cons (pe_op op_gAdd (pv 3) (pv 0)) pa_nil)))))))
  (pss_cons (ps_set (i := 5) sc_l_ends.nd rfl (by first | exact Or.inl rfl | exact Or.inr rfl) (pe_non))
  (pss_cons (ps_for PassesOwn.never rfl (pi_revR (by rfl) T.b_reversed (prg_2 (by rfl) T.b_range (pv 2) (pe_callB call_gLen (by rfl) T.b_len (by decide +kernel) (pa_cons (pv 1) pa_nil)))) (pg_name (i := 4) sc_l_ends.nd rfl (by first | exact Or.inl rfl | exact Or.inr rfl)) (pss_one (ps_set (i := 5) sc_l_ends.nd rfl (by first | exact Or.inl rfl | exact Or.inr rfl) (pe_ifExp (pt_cmpR op_gIs (pv 5) (pe_non) (nomark _)) (pe_ix ix_seq (pe_ix ix_seq (pv 1) (pv 4) (fun _ _ => rfl)) (pe_int) (fun _ _ => rfl)) (pe_callB (call_gMin rfl) (by rfl) T.b_min (by decide +kernel) (pa_cons (pe_ix ix_seq (pe_ix ix_seq (pv 1) (pv 4) (fun _ _ => rfl)) (pe_int) (fun _ _ => rfl)) (pa_cons (pe_op op_gSub (pv 5) (pv 0)) pa_nil)))))))
  (pss_one (ps_ret (pe_tup (pa_cons (pv 3) (pa_cons (pv 5) pa_nil)))))))))
theorem bd_moved (T : Tx K mg) : Binds K T.d_moved ["rail", "places", "at_work", "goals", "ranks"] [] := T.F_moved.binds (ps := ["rail", "places", "at_work", "goals", "ranks"]) fun _ _ _ _ _ _ us hl => match us, hl with | [_, _, _, _, _], _ => rfl
theorem ok_moved (T : Tx K mg) : FnOk P w K mg base CX0 2 T.a_moved T.d_moved ["rail", "places", "at_work", "goals", "ranks"] (sp_moved K T.c_Rail) := by
  refine T.F_moved.ok sc_moved (fun vs H Q E h => len_moved h) (fun cdv A outer s H vs Q E hr h => ?_)
  refine ⟨t_moved K T.c_Rail, ?_, body_WO0 (b := p_moved K T.Z) (N := nm_moved) h (fun ds d hR => by rw [ln_moved hR]; decide) (fun ds d hR => rd_moved T.Z hR)⟩
  exact (pss_cons (ps_setLc (i := 5) (own := [("place", 6), ("wish", 7)]) (g := (gTup K 2 (gCons (gName 6) (gCons (gName 7) gNil)))) (tt := tYes) (by rfl) sc_moved.nd rfl rfl (sw_true rfl rfl rfl (by decide +kernel)) (pi_zip (by rfl) T.b_zip (pa_cons (pv 1) (pa_cons (pv 3) pa_nil))) (blkOk_by (own := [("place", 6), ("wish", 7)]) (N := nm_moved) (sc := defScope s_moved) (by decide +kernel)) (fun _ _ _ _ _ => (pg_tup rfl (pgs_cons (pg_name (i := 6) sc_moved.nd rfl (Or.inl rfl)) (pgs_cons (pg_name (i := 7) sc_moved.nd rfl (Or.inl rfl)) pgs_nil)))) (fun _ _ _ _ _ => pts_nil) (fun _ _ _ _ _ => (pe_ifExp (pt_cmpR op_gIs (pv 7) (pe_non) (nomark _)) (pv 6) (pv 7))))
  (pss_cons (ps_if (pt_cmpR (op_gEq hr.units) (pv 5) (pv 1) (nomark _)) (pss_one (ps_ret (pv 5))) pss_nil)
  (pss_cons (ps_set (i := 8) sc_moved.nd rfl (by first | exact Or.inl rfl | exact Or.inr rfl) (pe_call (ok_lows T) (hr.mono (by decide)) (by rfl) T.m_lows T.F_lows.kp (bd_lows T) .nil pass0 (pa_cons (pv 0) (pa_cons (pv 1) (pa_cons (pv 2) pa_nil)))))
  (pss_cons (ps_set (i := 9) sc_moved.nd rfl (by first | exact Or.inl rfl | exact Or.inr rfl) (pe_call (ok_highs T) (hr.mono (by decide)) (by rfl) T.m_highs T.F_highs.kp (bd_highs T) .nil pass0 (pa_cons (pv 0) (pa_cons (pv 1) (pa_cons (pv 2) pa_nil)))))
  (pss_cons (ps_for PassesOwn.never rfl (pi_list (pv 4)) (pg_name (i := 10) sc_moved.nd rfl (by first | exact Or.inl rfl | exact Or.inr rfl)) (pss_cons (ps_set (i := 6) sc_moved.nd rfl (by first | exact Or.inl rfl | exact Or.inr rfl) (pe_callB (call_gMin rfl) (by rfl) T.b_min (by decide +kernel) (pa_cons (pe_callB (call_gMax rfl) (by rfl) T.b_max (by decide +kernel) (pa_cons (pe_ix ix_seq (pv 5) (pv 10) (fun _ _ => rfl)) (pa_cons (pe_ix ix_seq (pv 8) (pv 10) (fun _ _ => rfl)) pa_nil))) (pa_cons (pe_ix ix_seq (pv 9) (pv 10) (fun _ _ => rfl)) pa_nil))))
  (pss_one (ps_expr (pe_call (ok_settle T) (hr.mono (by decide)) (by rfl) T.m_settle T.F_settle.kp (bd_settle T) .nil pass0 (pa_cons (pv 8) (pa_cons (pv 9) (pa_cons (pe_fld (pv 0) rfl) (pa_cons (pv 10) (pa_cons (pv 6) pa_nil))))))))))
  (pss_one (ps_ret (pv 8))))))))
theorem bd_Rail_are_apart (T : Tx K mg) : Binds K T.d_Rail_are_apart ["self", "places"] [] := T.F_Rail_are_apart.binds (ps := ["self", "places"]) fun _ _ _ _ _ _ us hl => match us, hl with | [_, _], _ => rfl
theorem ok_Rail_are_apart (T : Tx K mg) : FnOk P w K mg base CX0 2 T.a_Rail_are_apart T.d_Rail_are_apart ["self", "places"] (sp_Rail_are_apart K T.c_Rail) := by
  refine T.F_Rail_are_apart.ok sc_Rail_are_apart (fun vs H Q E h => len_Rail_are_apart h) (fun cdv A outer s H vs Q E hr h => ?_)
  refine ⟨t_Rail_are_apart K T.c_Rail, ?_, body_D (N := nm_Rail_are_apart) h (fun ds d hR => by rw [ln_Rail_are_apart hR]; decide) (fun ds d hR => rd_Rail_are_apart K T.Z hR)⟩
  exact (pss_cons (ps_if (PW.pt (pw_or (pt_not (pt_val (pe_callB call_isi (by rfl) T.b_isinstance (by decide +kernel) (pa_cons (pv 1) (pa_cons (pe_bltn (v := .ty "list") (by rfl) T.b_list (by decide +kernel) rfl) pa_nil))))) (pw_or1 (pt_cmpR (op_gNe hr.units) (pe_callB call_gLen (by rfl) T.b_len (by decide +kernel) (pa_cons (pv 1) pa_nil)) (pe_callB call_gLen (by rfl) T.b_len (by decide +kernel) (pa_cons (pe_fld (pv 0) rfl) pa_nil)) (nomark _))))) (pss_one (ps_ret (pe_bl))) pss_nil)
  (pss_cons (ps_set (i := 2) sc_Rail_are_apart.nd rfl (by first | exact Or.inl rfl | exact Or.inr rfl) (pe_int))
  (pss_cons (ps_for PassesOwn.never rfl (pi_list (pv 1)) (pg_name (i := 3) sc_Rail_are_apart.nd rfl (by first | exact Or.inl rfl | exact Or.inr rfl)) (pss_cons (ps_if (pt_not (pt_val (pe_call (ok_is_among T) (hr.mono (by decide)) (by rfl) T.m_is_among T.F_is_among.kp (bd_is_among T) .nil pass0 (pa_cons (pv 3) (pa_cons (pv 2) (pa_cons (pe_fld (pv 0) rfl) pa_nil)))))) (pss_one (ps_ret (pe_bl))) pss_nil)
  (pss_one (ps_set (i := 2) sc_Rail_are_apart.nd rfl (by first | exact Or.inl rfl | exact Or.inr rfl) (pe_op op_gAdd (pv 3) (pe_fld (pv 0) rfl))))))
  (pss_one (ps_ret (pe_bl))))))
theorem bd_is_crane (T : Tx K mg) : Binds K T.d_is_crane ["thing"] [] := T.F_is_crane.binds (ps := ["thing"]) fun _ _ _ _ _ _ us hl => match us, hl with | [_], _ => rfl
theorem ok_is_crane (T : Tx K mg) : FnOk P w K mg base CX0 2 T.a_is_crane T.d_is_crane ["thing"] (sp_is_crane K T.c_Rail) := by
  refine T.F_is_crane.ok sc_is_crane (fun vs H Q E h => len_is_crane h) (fun cdv A outer s H vs Q E hr h => ?_)
  refine ⟨t_is_crane K T.c_Rail, ?_, body_D (N := nm_is_crane) h (fun ds d hR => by rw [ln_is_crane hR]; decide) (fun ds d hR => rd_is_crane K T.Z hR)⟩
  exact (pss_cons (ps_if (PW.pt (pw_or (pt_not (pt_val (pe_callB call_isi (by rfl) T.b_isinstance (by decide +kernel) (pa_cons (pv 0) (pa_cons (pe_bltn (v := .ty "tuple") (by rfl) T.b_tuple (by decide +kernel) rfl) pa_nil))))) (pw_or1 (pt_cmpR (op_gNe hr.units) (pe_callB call_gLen (by rfl) T.b_len (by decide +kernel) (pa_cons (pv 0) pa_nil)) (pe_int) (nomark _))))) (pss_one (ps_ret (pe_bl))) pss_nil)
  (pss_cons (ps_asg (pv 0) (pg_tup rfl (pgs_cons (pg_name (i := 1) sc_is_crane.nd rfl (by first | exact Or.inl rfl | exact Or.inr rfl)) (pgs_cons (pg_name (i := 2) sc_is_crane.nd rfl (by first | exact Or.inl rfl | exact Or.inr rfl)) pgs_nil))))
  (pss_one (ps_ret (pe_and (pe_call (ok_is_among T) (hr.mono (by decide)) (by rfl) T.m_is_among T.F_is_among.kp (bd_is_among T) .nil pass0 (pa_cons (pv 1) (pa_cons (pe_int) (pa_cons (pe_glob rfl T.c_GREATEST_SPEED ⟨_, rfl⟩) pa_nil)))) (pe_one (pe_call (ok_is_among T) (hr.mono (by decide)) (by rfl) T.m_is_among T.F_is_among.kp (bd_is_among T) .nil pass0 (pa_cons (pv 2) (pa_cons (pe_int) (pa_cons (pe_glob rfl T.c_GREATEST_HOIST ⟨_, rfl⟩) pa_nil))))))))))
theorem bd_l_mixed (T : Tx K mg) : Binds K T.d_l_mixed ["_law_script", "_law_k"] [] := T.F_l_mixed.binds (ps := ["_law_script", "_law_k"]) fun _ _ _ _ _ _ us hl => match us, hl with | [_, _], _ => rfl
theorem ok_l_mixed (T : Tx K mg) : FnOk P w K mg base CX0 2 T.a_l_mixed T.d_l_mixed ["_law_script", "_law_k"] (sp_l_mixed K T.c_Rail) := by
  refine T.F_l_mixed.ok sc_l_mixed (fun vs H Q E h => len_l_mixed h) (fun cdv A outer s H vs Q E hr h => ?_)
  refine ⟨t_l_mixed K T.c_Rail, ?_, body_D (N := nm_l_mixed) h (fun ds d hR => by rw [ln_l_mixed hR]; decide) (fun ds d hR => rd_l_mixed K T.Z hR)⟩
  exact (pss_cons (ps_set (i := 2) sc_l_mixed.nd rfl (by first | exact Or.inl rfl | exact Or.inr rfl) (pe_call (ok_l_cell_at T) (hr.mono (by decide)) (by rfl) T.m_l_cell_at T.F_l_cell_at.kp (bd_l_cell_at T) .nil pass0 (pa_cons (pv 0) (pa_cons (pv 1) pa_nil))))
  (pss_cons (ps_if (PW.pt (pw_and (pt_cmpR (op_gNe hr.units) (pv 0) (pe_lst pa_nil) (nomark _)) (pw_and1 (pt_cmpR (op_gEq hr.units) (pe_op op_gMod (pe_ix ix_seq (pv 0) (pe_int) (fun _ _ => rfl)) (pe_int)) (pe_int) (nomark _))))) (pss_one (ps_ret (pe_op op_gFdv (pe_op op_gMod (pv 2) (pe_op op_gMul (pe_int) (pe_op op_gPow (pe_int) (pe_int)))) (pe_int)))) pss_nil)
  (pss_cons (ps_set (i := 3) sc_l_mixed.nd rfl (by first | exact Or.inl rfl | exact Or.inr rfl) (pe_op op_gMod (pe_op op_gAdd (pe_op op_gAdd (pe_op op_gMul (pv 2) (pe_int)) (pe_op op_gMul (pe_int) (pv 1))) (pe_int)) (pe_int)))
  (pss_one (ps_ret (pe_op op_gMod (pe_op op_gMul (pv 3) (pe_op op_gAdd (pv 3) (pe_op op_gMul (pe_int) (pv 1)))) (pe_int)))))))
theorem bd_l_due (T : Tx K mg) : Binds K T.d_l_due ["_law_rail_here", "_law_places", "_law_works", "_law_goals_here", "_law_by_rank"] [] := T.F_l_due.binds (ps := ["_law_rail_here", "_law_places", "_law_works", "_law_goals_here", "_law_by_rank"]) fun _ _ _ _ _ _ us hl => match us, hl with | [_, _, _, _, _], _ => rfl
theorem ok_l_due (T : Tx K mg) : FnOk P w K mg base CX0 2 T.a_l_due T.d_l_due ["_law_rail_here", "_law_places", "_law_works", "_law_goals_here", "_law_by_rank"] (sp_l_due K T.c_Rail) := by
  refine T.F_l_due.ok sc_l_due (fun vs H Q E h => len_l_due h) (fun cdv A outer s H vs Q E hr h => ?_)
  refine ⟨t_l_due K T.c_Rail, ?_, body_O (N := nm_l_due) h (fun ds d hR => by rw [ln_l_due hR]; decide) (fun ds d hR => rd_l_due K T.Z hR)⟩
  exact (pss_cons (ps_asg (pv 0) (pg_tup rfl (pgs_cons (pg_name (i := 5) sc_l_due.nd rfl (by first | exact Or.inl rfl | exact Or.inr rfl)) (pgs_cons (pg_name (i := 6) sc_l_due.nd rfl (by first | exact Or.inl rfl | exact Or.inr rfl)) (pgs_cons (pg_name (i := 7) sc_l_due.nd rfl (by first | exact Or.inl rfl | exact Or.inr rfl)) pgs_nil)))))
  (pss_cons (ps_set (i := 8) sc_l_due.nd rfl (by first | exact Or.inl rfl | exact Or.inr rfl) (pe_lst pa_nil))
  (pss_cons (ps_for PassesOwn.never rfl (pi_enum (by rfl) T.b_enumerate (pa_cons (pv 1) pa_nil)) (pg_tup rfl (pgs_cons (pg_name (i := 9) sc_l_due.nd rfl (by first | exact Or.inl rfl | exact Or.inr rfl)) (pgs_cons (pg_name (i := 10) sc_l_due.nd rfl (by first | exact Or.inl rfl | exact Or.inr rfl)) pgs_nil))) (pss_cons (ps_set (i := 11) sc_l_due.nd rfl (by first | exact Or.inl rfl | exact Or.inr rfl) (pe_ifExp (pt_val (pe_ix ix_seq (pv 2) (pv 9) (fun _ _ => rfl))) (pe_int) (pe_ix ix_seq (pe_ix ix_seq (pv 7) (pv 9) (fun _ _ => rfl)) (pe_int) (fun _ _ => rfl))))
  (pss_one (ps_expr (pe_bm PySem.F.plainAttrs_list PySem.F.slot_list_append PySem.F.type_list_append mt_append (pv 8) (pa_cons (pe_tup (pa_cons (pe_callB (call_gMax rfl) (by rfl) T.b_max (by decide +kernel) (pa_cons (pe_int) (pa_cons (pe_op op_gSub (pv 10) (pv 11)) pa_nil))) (pa_cons (pe_callB (call_gMin rfl) (by rfl) T.b_min (by decide +kernel) (pa_cons (pv 5) (pa_cons (pe_op op_gAdd (pv 10) (pv 11)) pa_nil))) pa_nil))) pa_nil))))))
  (pss_cons (ps_for PassesOwn.never rfl (pi_list (pv 4)) (pg_name (i := 12) sc_l_due.nd rfl (by first | exact Or.inl rfl | exact Or.inr rfl)) (pss_cons (ps_asg (pe_call (ok_l_ends T) (hr.mono (by decide)) (by rfl) T.m_l_ends T.F_l_ends.kp (bd_l_ends T) .nil pass0 (pa_cons (pv 6) (pa_cons (pv 8) (pa_cons (pv 12) pa_nil)))) (pg_tup rfl (pgs_cons (pg_name (i := 13) sc_l_due.nd rfl (by first | exact Or.inl rfl | exact Or.inr rfl)) (pgs_cons (pg_name (i := 14) sc_l_due.nd rfl (by first | exact Or.inl rfl | exact Or.inr rfl)) pgs_nil))))
  (pss_cons (ps_set (i := 15) sc_l_due.nd rfl (by first | exact Or.inl rfl | exact Or.inr rfl) (pe_ifExp (pt_cmpR op_gIs (pe_ix ix_seq (pv 3) (pv 12) (fun _ _ => rfl)) (pe_non) (nomark _)) (pe_ix ix_seq (pv 1) (pv 12) (fun _ _ => rfl)) (pe_ix ix_seq (pv 3) (pv 12) (fun _ _ => rfl))))
  (pss_cons (ps_set (i := 10) sc_l_due.nd rfl (by first | exact Or.inl rfl | exact Or.inr rfl) (pe_ifExp (pt_cmpR op_gLt (pv 15) (pv 13) (nomark _)) (pv 13) (pe_callB (call_gMin rfl) (by rfl) T.b_min (by decide +kernel) (pa_cons (pv 15) (pa_cons (pv 14) pa_nil)))))
  (pss_one (ps_asg (pe_tup (pa_cons (pv 10) (pa_cons (pv 10) pa_nil))) (pg_sub (pv 8) (pv 12) set_list)))))))
  (pss_one (ps_ret (pe_lc (own := [("_law_low", 13), ("_law_high", 14)]) (g := (gTup K 2 (gCons (gName 13) (gCons (gName 14) gNil)))) (tt := tYes) (by rfl) sc_l_due.nd (pi_list (pv 8)) (blkOk_by (own := [("_law_low", 13), ("_law_high", 14)]) (N := nm_l_due) (sc := defScope s_l_due) (by decide +kernel)) (fun _ _ _ _ _ => (pg_tup rfl (pgs_cons (pg_name (i := 13) sc_l_due.nd rfl (Or.inl rfl)) (pgs_cons (pg_name (i := 14) sc_l_due.nd rfl (Or.inl rfl)) pgs_nil)))) (fun _ _ _ _ _ => pts_nil) (fun _ _ _ _ _ => (pv 13)))))))))
theorem bd_is_rail (T : Tx K mg) : Binds K T.d_is_rail ["end", "room", "cranes"] [] := T.F_is_rail.binds (ps := ["end", "room", "cranes"]) fun _ _ _ _ _ _ us hl => match us, hl with | [_, _, _], _ => rfl
theorem ok_is_rail (T : Tx K mg) : FnOk P w K mg base CX0 3 T.a_is_rail T.d_is_rail ["end", "room", "cranes"] (sp_is_rail K T.c_Rail) := by
  refine T.F_is_rail.ok sc_is_rail (fun vs H Q E h => len_is_rail h) (fun cdv A outer s H vs Q E hr h => ?_)
  refine ⟨t_is_rail K T.c_Rail, ?_, body_D (N := nm_is_rail) h (fun ds d hR => by rw [ln_is_rail hR]; decide) (fun ds d hR => rd_is_rail K T.Z hR)⟩
  exact (pss_cons (ps_if (PW.pt (pw_or (pt_not (pt_val (pe_call (ok_is_among T) (hr.mono (by decide)) (by rfl) T.m_is_among T.F_is_among.kp (bd_is_among T) .nil pass0 (pa_cons (pv 0) (pa_cons (pe_int) (pa_cons (pe_glob rfl T.c_GREATEST_END ⟨_, rfl⟩) pa_nil)))))) (pw_or1 (pt_not (pt_val (pe_call (ok_is_among T) (hr.mono (by decide)) (by rfl) T.m_is_among T.F_is_among.kp (bd_is_among T) .nil pass0 (pa_cons (pv 1) (pa_cons (pe_int) (pa_cons (pe_glob rfl T.c_GREATEST_ROOM ⟨_, rfl⟩) pa_nil))))))))) (pss_one (ps_ret (pe_bl))) pss_nil)
  (pss_cons (ps_if (PW.pt (pw_or (pt_not (pt_val (pe_callB call_isi (by rfl) T.b_isinstance (by decide +kernel) (pa_cons (pv 2) (pa_cons (pe_bltn (v := .ty "list") (by rfl) T.b_list (by decide +kernel) rfl) pa_nil))))) (pw_or1 (pt_not (pt_chain op_gLe op_gLe (pe_int) (pe_callB call_gLen (by rfl) T.b_len (by decide +kernel) (pa_cons (pv 2) pa_nil)) (pe_glob rfl T.c_MOST_CRANES ⟨_, rfl⟩)))))) (pss_one (ps_ret (pe_bl))) pss_nil)
  (pss_cons (ps_if (pt_not (pt_val (pe_callB (cr_all rfl) (by rfl) T.b_all (by decide +kernel) (pa_cons (pe_lc (own := [("crane", 3)]) (g := (gName 3)) (tt := tYes) (by rfl) sc_is_rail.nd (pi_list (pv 2)) (blkOk_by (own := [("crane", 3)]) (N := nm_is_rail) (sc := defScope s_is_rail) (by decide +kernel)) (fun _ _ _ _ _ => (pg_name (i := 3) sc_is_rail.nd rfl (Or.inl rfl))) (fun _ _ _ _ _ => pts_nil) (fun _ _ _ _ _ => (pe_call (ok_is_crane T) (hr.mono (by decide)) (by rfl) T.m_is_crane T.F_is_crane.kp (bd_is_crane T) .nil pass0 (pa_cons (pv 3) pa_nil)))) pa_nil)))) (pss_one (ps_ret (pe_bl))) pss_nil)
  (pss_one (ps_ret (pe_cmpR op_gLe (pe_op op_gMul (pe_op op_gSub (pe_callB call_gLen (by rfl) T.b_len (by decide +kernel) (pa_cons (pv 2) pa_nil)) (pe_int)) (pv 1)) (pv 0) (nomark _)))))))
theorem bd_l_rail (T : Tx K mg) : Binds K T.d_l_rail ["_law_script", "_law_scale"] [] := T.F_l_rail.binds (ps := ["_law_script", "_law_scale"]) fun _ _ _ _ _ _ us hl => match us, hl with | [_, _], _ => rfl
theorem ok_l_rail (T : Tx K mg) : FnOk P w K mg base CX0 3 T.a_l_rail T.d_l_rail ["_law_script", "_law_scale"] (sp_l_rail K T.c_Rail) := by
  refine T.F_l_rail.ok sc_l_rail (fun vs H Q E h => len_l_rail h) (fun cdv A outer s H vs Q E hr h => ?_)
  refine ⟨t_l_rail K T.c_Rail, ?_, body_D (N := nm_l_rail) h (fun ds d hR => by rw [ln_l_rail hR]; decide) (fun ds d hR => rd_l_rail K T.Z hR)⟩
  exact (pss_cons (ps_set (i := 2) sc_l_rail.nd rfl (by first | exact Or.inl rfl | exact Or.inr rfl) (pe_op op_gAdd (pe_int) (pe_op op_gMod (pe_call (ok_l_mixed T) (hr.mono (by decide)) (by rfl) T.m_l_mixed T.F_l_mixed.kp (bd_l_mixed T) .nil pass0 (pa_cons (pv 0) (pa_cons (pe_int) pa_nil))) (pe_int))))
  (pss_cons (ps_set (i := 3) sc_l_rail.nd rfl (by first | exact Or.inl rfl | exact Or.inr rfl) (pe_op op_gMul (pv 1) (pe_op op_gAdd (pe_int) (pe_op op_gMod (pe_op op_gFdv (pe_call (ok_l_mixed T) (hr.mono (by decide)) (by rfl) T.m_l_mixed T.F_l_mixed.kp (bd_l_mixed T) .nil pass0 (pa_cons (pv 0) (pa_cons (pe_int) pa_nil))) (pe_int)) (pe_int)))))
  (pss_cons (ps_set (i := 4) sc_l_rail.nd rfl (by first | exact Or.inl rfl | exact Or.inr rfl) (pe_lst pa_nil))
  (pss_cons (ps_set (i := 5) sc_l_rail.nd rfl (by first | exact Or.inl rfl | exact Or.inr rfl) (pe_op op_gMul (pe_ix ix_seq (pe_lst (pa_cons (pe_int) (pa_cons (pe_op op_gAdd (pe_op op_gPow (pe_int) (pe_int)) (pe_int)) (pa_cons (pe_op op_gSub (pe_op op_gPow (pe_int) (pe_int)) (pe_op op_gPow (pe_int) (pe_int))) pa_nil)))) (pe_op op_gMod (pe_op op_gFdv (pe_call (ok_l_mixed T) (hr.mono (by decide)) (by rfl) T.m_l_mixed T.F_l_mixed.kp (bd_l_mixed T) .nil pass0 (pa_cons (pv 0) (pa_cons (pe_int) pa_nil))) (pe_int)) (pe_int)) (fun _ _ => rfl)) (pe_callTy call_gInt (by rfl) T.b_int (by decide +kernel) (pa_cons (pe_cmpR op_gGt (pv 1) (pe_int) (nomark _)) pa_nil))))
  (pss_cons (ps_set (i := 6) sc_l_rail.nd rfl (by first | exact Or.inl rfl | exact Or.inr rfl) (pe_op op_gAdd (pv 5) (pe_op op_gMul (pv 1) (pe_op op_gMod (pe_call (ok_l_mixed T) (hr.mono (by decide)) (by rfl) T.m_l_mixed T.F_l_mixed.kp (bd_l_mixed T) .nil pass0 (pa_cons (pv 0) (pa_cons (pe_int) pa_nil))) (pe_int)))))
  (pss_cons (ps_for PassesOwn.never rfl (pi_range1 (by rfl) T.b_range (pa_cons (pv 2) pa_nil)) (pg_name (i := 7) sc_l_rail.nd rfl (by first | exact Or.inl rfl | exact Or.inr rfl)) (pss_cons (ps_expr (pe_bm PySem.F.plainAttrs_list PySem.F.slot_list_append PySem.F.type_list_append mt_append (pv 4) (pa_cons (pv 6) pa_nil)))
  (pss_one (ps_set (i := 6) sc_l_rail.nd rfl (by first | exact Or.inl rfl | exact Or.inr rfl) (pe_op op_gAdd (pe_op op_gAdd (pe_op op_gAdd (pv 6) (pv 3)) (pe_op op_gMul (pv 1) (pe_op op_gMod (pe_op op_gFdv (pe_call (ok_l_mixed T) (hr.mono (by decide)) (by rfl) T.m_l_mixed T.F_l_mixed.kp (bd_l_mixed T) .nil pass0 (pa_cons (pv 0) (pa_cons (pe_int) pa_nil))) (pe_op op_gAdd (pe_int) (pe_op op_gMul (pe_int) (pv 7)))) (pe_int)))) (pe_op op_gMod (pe_op op_gFdv (pe_call (ok_l_mixed T) (hr.mono (by decide)) (by rfl) T.m_l_mixed T.F_l_mixed.kp (bd_l_mixed T) .nil pass0 (pa_cons (pv 0) (pa_cons (pe_int) pa_nil))) (pe_op op_gAdd (pe_int) (pv 7))) (pv 1)))))))
  (pss_cons (ps_set (i := 8) sc_l_rail.nd rfl (by first | exact Or.inl rfl | exact Or.inr rfl) (pe_op op_gAdd (pe_ix ix_seq (pv 4) (pe_un un_neg (pe_int)) (fun _ _ => rfl)) (pe_op op_gMul (pv 1) (pe_op op_gAdd (pe_int) (pe_op op_gMod (pe_op op_gFdv (pe_call (ok_l_mixed T) (hr.mono (by decide)) (by rfl) T.m_l_mixed T.F_l_mixed.kp (bd_l_mixed T) .nil pass0 (pa_cons (pv 0) (pa_cons (pe_int) pa_nil))) (pe_int)) (pe_int))))))
  (pss_cons (ps_set (i := 9) sc_l_rail.nd rfl (by first | exact Or.inl rfl | exact Or.inr rfl) (pe_lst pa_nil))
  (pss_cons (ps_for PassesOwn.never rfl (pi_range1 (by rfl) T.b_range (pa_cons (pv 2) pa_nil)) (pg_name (i := 7) sc_l_rail.nd rfl (by first | exact Or.inl rfl | exact Or.inr rfl)) (pss_cons (ps_set (i := 10) sc_l_rail.nd rfl (by first | exact Or.inl rfl | exact Or.inr rfl) (pe_op op_gMul (pv 1) (pe_op op_gAdd (pe_int) (pe_op op_gMod (pe_op op_gFdv (pe_call (ok_l_mixed T) (hr.mono (by decide)) (by rfl) T.m_l_mixed T.F_l_mixed.kp (bd_l_mixed T) .nil pass0 (pa_cons (pv 0) (pa_cons (pe_int) pa_nil))) (pe_op op_gAdd (pe_int) (pe_op op_gMul (pe_int) (pv 7)))) (pe_int)))))
  (pss_one (ps_expr (pe_bm PySem.F.plainAttrs_list PySem.F.slot_list_append PySem.F.type_list_append mt_append (pv 9) (pa_cons (pe_tup (pa_cons (pv 10) (pa_cons (pe_op op_gAdd (pe_int) (pe_op op_gMod (pe_op op_gFdv (pe_call (ok_l_mixed T) (hr.mono (by decide)) (by rfl) T.m_l_mixed T.F_l_mixed.kp (bd_l_mixed T) .nil pass0 (pa_cons (pv 0) (pa_cons (pe_int) pa_nil))) (pe_op op_gAdd (pe_int) (pe_op op_gMul (pe_int) (pv 7)))) (pe_int))) pa_nil))) pa_nil))))))
  (pss_one (ps_ret (pe_tup (pa_cons (pv 8) (pa_cons (pv 3) (pa_cons (pv 9) (pa_cons (pv 4) pa_nil))))))))))))))))
theorem bd_Rail_init (T : Tx K mg) : Binds K T.d_Rail_init ["self", "end", "room", "cranes"] [] := T.F_Rail_init.binds (ps := ["self", "end", "room", "cranes"]) fun _ _ _ _ _ _ us hl => match us, hl with | [_, _, _, _], _ => rfl
theorem ok_Rail_init (T : Tx K mg) : FnOk P w K mg base CX0 4 T.a_Rail_init T.d_Rail_init ["self", "end", "room", "cranes"] (sp_Rail_init K T.c_Rail) := by
  refine T.F_Rail_init.ok sc_Rail_init (fun vs H Q E h => len_Rail_init h) (fun cdv A outer s H vs Q E hr h => ?_)
  refine ⟨t_Rail_init K T.c_Rail, ?_, body_I (N := nm_Rail_init) h (fun ds d hR => by rw [ln_Rail_init hR]; decide) (fun x ds d hR => rd_Rail_init K T.Z hR)⟩
  exact (pss_cons (ps_if (pt_not (pt_val (pe_call (ok_is_rail T) (hr.mono (by decide)) (by rfl) T.m_is_rail T.F_is_rail.kp (bd_is_rail T) .nil pass0 (pa_cons (pv 1) (pa_cons (pv 2) (pa_cons (pv 3) pa_nil)))))) (pss_one (ps_never)) pss_nil)
  (pss_cons (ps_fld (pv 0) (pv 1) rfl)
  (pss_cons (ps_fld (pv 0) (pv 2) rfl)
  (pss_one (ps_fld (pv 0) (pe_callTy call_gTuple (by rfl) T.b_tuple (by decide +kernel) (pa_cons (pe_lc (own := [("speed", 4), ("hoist", 5)]) (g := (gTup K 2 (gCons (gName 4) (gCons (gName 5) gNil)))) (tt := tYes) (by rfl) sc_Rail_init.nd (pi_list (pv 3)) (blkOk_by (own := [("speed", 4), ("hoist", 5)]) (N := nm_Rail_init) (sc := defScope s_Rail_init) (by decide +kernel)) (fun _ _ _ _ _ => (pg_tup rfl (pgs_cons (pg_name (i := 4) sc_Rail_init.nd rfl (Or.inl rfl)) (pgs_cons (pg_name (i := 5) sc_Rail_init.nd rfl (Or.inl rfl)) pgs_nil)))) (fun _ _ _ _ _ => pts_nil) (fun _ _ _ _ _ => (pe_tup (pa_cons (pv 4) (pa_cons (pv 5) pa_nil))))) pa_nil)) rfl)))))
theorem bd_law (T : Tx K mg) : Binds K T.d_law ["_law_script"] [] := T.F_law.binds (ps := ["_law_script"]) fun _ _ _ _ _ _ us hl => match us, hl with | [_], _ => rfl
theorem ok_law (T : Tx K mg) : FnOk P w K mg base CX0 6 T.a_law T.d_law ["_law_script"] (sp_law K) := by
  refine T.F_law.ok sc_law (fun vs H Q E h => len_law h) (fun cdv A outer s H vs Q E hr h => ?_)
  refine ⟨t_law K T.c_Rail, ?_, body_D (N := nm_law) h (fun ds d hR => by rw [ln_law hR]; decide) (fun ds d hR => rd_law K T.Z hR)⟩
  exact (pss_cons (ps_set (i := 1) sc_law.nd rfl (by first | exact Or.inl rfl | exact Or.inr rfl) (pe_ix ix_seq (pe_lst (pa_cons (pe_int) (pa_cons (pe_int) (pa_cons (pe_int) (pa_cons (pe_int) pa_nil))))) (pe_op op_gMod (pe_call (ok_l_mixed T) (hr.mono (by decide)) (by rfl) T.m_l_mixed T.F_l_mixed.kp (bd_l_mixed T) .nil pass0 (pa_cons (pv 0) (pa_cons (pe_int) pa_nil))) (pe_int)) (fun _ _ => rfl)))
  (pss_cons (ps_asg (pe_call (ok_l_rail T) (hr.mono (by decide)) (by rfl) T.m_l_rail T.F_l_rail.kp (bd_l_rail T) .nil pass0 (pa_cons (pv 0) (pa_cons (pv 1) pa_nil))) (pg_tup rfl (pgs_cons (pg_name (i := 2) sc_law.nd rfl (by first | exact Or.inl rfl | exact Or.inr rfl)) (pgs_cons (pg_name (i := 3) sc_law.nd rfl (by first | exact Or.inl rfl | exact Or.inr rfl)) (pgs_cons (pg_name (i := 4) sc_law.nd rfl (by first | exact Or.inl rfl | exact Or.inr rfl)) (pgs_cons (pg_name (i := 5) sc_law.nd rfl (by first | exact Or.inl rfl | exact Or.inr rfl)) pgs_nil))))))
  (pss_cons (ps_set (i := 6) sc_law.nd rfl (by first | exact Or.inl rfl | exact Or.inr rfl) (pe_make T.mk_Rail (ok_Rail_init T) (hr.mono (by decide)) (by rfl) T.g_Rail (bd_Rail_init T) .nil pass0 (pa_cons (pv 2) (pa_cons (pv 3) (pa_cons (pe_callTy call_gList (by rfl) T.b_list (by decide +kernel) (pa_cons (pv 4) pa_nil)) pa_nil)))))
  (pss_cons (ps_set (i := 7) sc_law.nd rfl (by first | exact Or.inl rfl | exact Or.inr rfl) (pe_callB call_gLen (by rfl) T.b_len (by decide +kernel) (pa_cons (pv 5) pa_nil)))
  (pss_cons (ps_for PassesOwn.never rfl (pi_range2 (by rfl) T.b_range (pa_cons (pe_int) (pa_cons (pe_callB (call_gMax rfl) (by rfl) T.b_max (by decide +kernel) (pa_cons (pe_int) (pa_cons (pe_callB (call_gMin rfl) (by rfl) T.b_min (by decide +kernel) (pa_cons (pe_callB call_gLen (by rfl) T.b_len (by decide +kernel) (pa_cons (pv 0) pa_nil)) (pa_cons (pe_int) pa_nil))) pa_nil))) pa_nil))) (pg_name (i := 8) sc_law.nd rfl (by first | exact Or.inl rfl | exact Or.inr rfl)) (pss_cons (ps_set (i := 9) sc_law.nd rfl (by first | exact Or.inl rfl | exact Or.inr rfl) (pe_call (ok_l_mixed T) (hr.mono (by decide)) (by rfl) T.m_l_mixed T.F_l_mixed.kp (bd_l_mixed T) .nil pass0 (pa_cons (pv 0) (pa_cons (pv 8) pa_nil))))
  (pss_cons (ps_setLc (i := 10) (own := [("_law_crane", 11)]) (g := (gName 11)) (tt := tYes) (by rfl) sc_law.nd rfl rfl (sw_true rfl rfl rfl (by decide +kernel)) (pi_range1 (by rfl) T.b_range (pa_cons (pv 7) pa_nil)) (blkOk_by (own := [("_law_crane", 11)]) (N := nm_law) (sc := defScope s_law) (by decide +kernel)) (fun _ _ _ _ _ => (pg_name (i := 11) sc_law.nd rfl (Or.inl rfl))) (fun _ _ _ _ _ => pts_nil) (fun _ _ _ _ _ => (pe_cmpR (op_gEq hr.units) (pe_op op_gMod (pe_op op_gFdv (pv 9) (pe_ix ix_seq (pe_lst (pa_cons (pe_int) (pa_cons (pe_int) (pa_cons (pe_int) (pa_cons (pe_int) (pa_cons (pe_int) (pa_cons (pe_int) pa_nil))))))) (pv 11) (fun _ _ => rfl))) (pe_int)) (pe_int) (nomark _))))
  (pss_cons (ps_set (i := 12) sc_law.nd rfl (by first | exact Or.inl rfl | exact Or.inr rfl) (pe_call (ok_l_goals T) (hr.mono (by decide)) (by rfl) T.m_l_goals T.F_l_goals.kp (bd_l_goals T) .nil pass0 (pa_cons (pe_op op_gFdv (pv 9) (pe_int)) (pa_cons (pv 2) (pa_cons (pv 3) (pa_cons (pv 7) pa_nil))))))
  (pss_cons (ps_set (i := 13) sc_law.nd rfl (by first | exact Or.inl rfl | exact Or.inr rfl) (pe_call (ok_l_ranks T) (hr.mono (by decide)) (by rfl) T.m_l_ranks T.F_l_ranks.kp (bd_l_ranks T) .nil pass0 (pa_cons (pe_op op_gFdv (pv 9) (pe_int)) (pa_cons (pv 7) pa_nil))))
  (pss_cons (ps_set (i := 14) sc_law.nd rfl (by first | exact Or.inl rfl | exact Or.inr rfl) (pe_lst (pa_cons (pe_callTy call_gList (by rfl) T.b_list (by decide +kernel) (pa_cons (pv 5) pa_nil)) (pa_cons (pe_callTy call_gList (by rfl) T.b_list (by decide +kernel) (pa_cons (pv 10) pa_nil)) (pa_cons (pe_callTy call_gList (by rfl) T.b_list (by decide +kernel) (pa_cons (pv 12) pa_nil)) (pa_cons (pe_callTy call_gList (by rfl) T.b_list (by decide +kernel) (pa_cons (pv 13) pa_nil)) pa_nil))))))
  (pss_cons (ps_set (i := 15) sc_law.nd rfl (by first | exact Or.inl rfl | exact Or.inr rfl) (pe_call (ok_l_due T) (hr.mono (by decide)) (by rfl) T.m_l_due T.F_l_due.kp (bd_l_due T) .nil pass0 (pa_cons (pe_tup (pa_cons (pv 2) (pa_cons (pv 3) (pa_cons (pv 4) pa_nil)))) (pa_cons (pv 5) (pa_cons (pv 10) (pa_cons (pv 12) (pa_cons (pv 13) pa_nil)))))))
  (pss_cons (ps_for PassesOwn.never rfl (pi_range1 (by rfl) T.b_range (pa_cons (pe_int) pa_nil)) (pg_name (i := 16) sc_law.nd rfl (by first | exact Or.inl rfl | exact Or.inr rfl)) (pss_cons (ps_set (i := 17) sc_law.nd rfl (by first | exact Or.inl rfl | exact Or.inr rfl) (pe_call (ok_moved T) (hr.mono (by decide)) (by rfl) T.m_moved T.F_moved.kp (bd_moved T) .nil pass0 (pa_cons (pv 6) (pa_cons (pe_ix ix_seq (pv 14) (pe_int) (fun _ _ => rfl)) (pa_cons (pe_ix ix_seq (pv 14) (pe_int) (fun _ _ => rfl)) (pa_cons (pe_ix ix_seq (pv 14) (pe_int) (fun _ _ => rfl)) (pa_cons (pe_ix ix_seq (pv 14) (pe_int) (fun _ _ => rfl)) pa_nil)))))))
  (pss_cons (ps_if (PW.pt (pw_or (pt_not (pt_val (pe_callB call_isi (by rfl) T.b_isinstance (by decide +kernel) (pa_cons (pv 17) (pa_cons (pe_bltn (v := .ty "list") (by rfl) T.b_list (by decide +kernel) rfl) pa_nil))))) (pw_or (pt_cmpR (op_gNe hr.units) (pv 17) (pv 15) (nomark _)) (pw_or1 (pt_cmpR (op_gNe hr.units) (pe_lc (own := [("_law_one", 18)]) (g := (gName 18)) (tt := (tB (tCB (rIsi K) (tCons (tVar 18) (tCons (tC (.ty "bool")) tNil))))) (by rfl) sc_law.nd (pi_list (pv 17)) (blkOk_by (own := [("_law_one", 18)]) (N := nm_law) (sc := defScope s_law) (by decide +kernel)) (fun _ _ _ _ _ => (pg_name (i := 18) sc_law.nd rfl (Or.inl rfl))) (fun _ _ _ _ _ => (pts_one (pt_val (pe_callB call_isi (by rfl) T.b_isinstance (by decide +kernel) (pa_cons (pv 18) (pa_cons (pe_bltn (v := .ty "bool") (by rfl) T.b_bool (by decide +kernel) rfl) pa_nil)))))) (fun _ _ _ _ _ => (pv 18))) (pe_lst pa_nil) (nomark _)))))) (pss_one (ps_ret (pe_bl))) pss_nil)
  (pss_one (ps_expr (pe_bm PySem.F.plainAttrs_list PySem.F.slot_list_append PySem.F.type_list_append mt_append (pv 17) (pa_cons (pe_int) pa_nil)))))))
  (pss_cons (ps_if (PW.pt (pw_or (pt_cmpR (op_gNe hr.units) (pv 14) (pe_lst (pa_cons (pv 5) (pa_cons (pv 10) (pa_cons (pv 12) (pa_cons (pv 13) pa_nil))))) (nomark _)) (pw_or1 (pt_not (pt_val (pe_meth (pv 6) T.Z.cl_Rail T.me_Rail_are_apart (ok_Rail_are_apart T) (hr.mono (by decide)) (bd_Rail_are_apart T) .nil pass0 (pa_cons (pv 15) pa_nil))))))) (pss_one (ps_ret (pe_bl))) pss_nil)
  (pss_one (ps_set (i := 5) sc_law.nd rfl (by first | exact Or.inl rfl | exact Or.inr rfl) (pv 15))))))))))))
  (pss_one (ps_ret (pe_bl))))))))
end
theorem all_mk {l : PySem.W.OpenLaw} {w : World} {K : PySem.W.Frag} {h : Heap} {mg : Str → Option Value} {fa : Addr} (X : K.In h) (G : h.Ns mainGlobals mg) (hfa : mg "law" = some (.ref fa))
    {f0 f1 f2 f3 f4 f5 f6 f7 f8 f9 f10 f11 f12 f13 f14 f15 f16 c_Rail : Addr}
    {od0 an0 od1 an1 od2 an2 od3 an3 od4 an4 od5 an5 od6 an6 od7 an7 od8 an8 od9 an9 od10 an10 od11 an11 od12 an12 od13 an13 od14 an14 od15 an15 od16 an16 : Option Addr} {sl0 sl1 sl2 sl3 sl4 sl5 sl6 sl7 sl8 sl9 sl10 sl11 sl12 sl13 sl14 sl15 sl16 : Array (Option Value)} {oc0 kV0 dc0 pm0 cd0 ct0 oc1 kV1 dc1 pm1 cd1 ct1 oc2 kV2 dc2 pm2 cd2 ct2 oc3 kV3 dc3 pm3 cd3 ct3 oc4 kV4 dc4 pm4 cd4 ct4 oc5 kV5 dc5 pm5 cd5 ct5 oc6 kV6 dc6 pm6 cd6 ct6 oc7 kV7 dc7 pm7 cd7 ct7 oc8 kV8 dc8 pm8 cd8 ct8 oc9 kV9 dc9 pm9 cd9 ct9 oc10 kV10 dc10 pm10 cd10 ct10 oc11 kV11 dc11 pm11 cd11 ct11 oc12 kV12 dc12 pm12 cd12 ct12 oc13 kV13 dc13 pm13 cd13 ct13 oc14 kV14 dc14 pm14 cd14 ct14 oc15 kV15 dc15 pm15 cd15 ct15 oc16 kV16 dc16 pm16 cd16 ct16 : Value}
    (ac_Rail : PySem.W.nsIn K mainGlobals "Rail" = some (some (.ref c_Rail))) (pg_Rail : PySem.W.plainGet K c_Rail Str.empty = true) (hd_Rail : PySem.W.hasDictIn K c_Rail = true) (po_Rail : PySem.W.plainOver K c_Rail = true) (sa_Rail : PySem.W.findIn K (.ref c_Rail) "__setattr__" = some (some (.builtin "object.__setattr__"))) (mk_Rail : PySem.W.makesIn K c_Rail = true) (kc_Rail : PySem.W.keepIn K (.ref c_Rail) = true)
    (nf_Rail_end : PySem.W.findIn K (.ref c_Rail) "end" = some none)
    (nf_Rail_room : PySem.W.findIn K (.ref c_Rail) "room" = some none)
    (nf_Rail_cranes : PySem.W.findIn K (.ref c_Rail) "cranes" = some none)
    (a0 : PySem.W.nsIn K mainGlobals "moved" = some (some (.ref f0))) (l0 : K.lookup f0 = some ⟨oc0, od0, .func (PySem.W.fnOf "moved" "moved" (defArgs s_moved) (defBody s_moved) (defScope s_moved) .none kV0 dc0 pm0 an0 cd0 ct0), sl0⟩) (c0 : PySem.W.codeIn K cd0 "moved" = true) (k0 : PySem.W.keepIn K (.ref f0) = true)
    (a1 : PySem.W.nsIn K mainGlobals "_lows" = some (some (.ref f1))) (l1 : K.lookup f1 = some ⟨oc1, od1, .func (PySem.W.fnOf "_lows" "_lows" (defArgs s_lows) (defBody s_lows) (defScope s_lows) .none kV1 dc1 pm1 an1 cd1 ct1), sl1⟩) (c1 : PySem.W.codeIn K cd1 "_lows" = true) (k1 : PySem.W.keepIn K (.ref f1) = true)
    (a2 : PySem.W.nsIn K mainGlobals "_highs" = some (some (.ref f2))) (l2 : K.lookup f2 = some ⟨oc2, od2, .func (PySem.W.fnOf "_highs" "_highs" (defArgs s_highs) (defBody s_highs) (defScope s_highs) .none kV2 dc2 pm2 an2 cd2 ct2), sl2⟩) (c2 : PySem.W.codeIn K cd2 "_highs" = true) (k2 : PySem.W.keepIn K (.ref f2) = true)
    (a3 : PySem.W.nsIn K mainGlobals "_settle" = some (some (.ref f3))) (l3 : K.lookup f3 = some ⟨oc3, od3, .func (PySem.W.fnOf "_settle" "_settle" (defArgs s_settle) (defBody s_settle) (defScope s_settle) .none kV3 dc3 pm3 an3 cd3 ct3), sl3⟩) (c3 : PySem.W.codeIn K cd3 "_settle" = true) (k3 : PySem.W.keepIn K (.ref f3) = true)
    (a4 : PySem.W.nsIn K mainGlobals "is_among" = some (some (.ref f4))) (l4 : K.lookup f4 = some ⟨oc4, od4, .func (PySem.W.fnOf "is_among" "is_among" (defArgs s_is_among) (defBody s_is_among) (defScope s_is_among) .none kV4 dc4 pm4 an4 cd4 ct4), sl4⟩) (c4 : PySem.W.codeIn K cd4 "is_among" = true) (k4 : PySem.W.keepIn K (.ref f4) = true)
    (a5 : PySem.W.findIn K (.ref c_Rail) "__init__" = some (some (.ref f5))) (i5 : PySem.W.isFn K (.ref f5) = true) (l5 : K.lookup f5 = some ⟨oc5, od5, .func (PySem.W.fnOf "__init__" "Rail.__init__" (defArgs s_Rail_init) (defBody s_Rail_init) (defScope s_Rail_init) .none kV5 dc5 pm5 an5 cd5 ct5), sl5⟩) (c5 : PySem.W.codeIn K cd5 "Rail.__init__" = true) (k5 : PySem.W.keepIn K (.ref f5) = true)
    (a6 : PySem.W.findIn K (.ref c_Rail) "are_apart" = some (some (.ref f6))) (i6 : PySem.W.isFn K (.ref f6) = true) (l6 : K.lookup f6 = some ⟨oc6, od6, .func (PySem.W.fnOf "are_apart" "Rail.are_apart" (defArgs s_Rail_are_apart) (defBody s_Rail_are_apart) (defScope s_Rail_are_apart) .none kV6 dc6 pm6 an6 cd6 ct6), sl6⟩) (c6 : PySem.W.codeIn K cd6 "Rail.are_apart" = true) (k6 : PySem.W.keepIn K (.ref f6) = true)
    (a7 : PySem.W.nsIn K mainGlobals "_is_rail" = some (some (.ref f7))) (l7 : K.lookup f7 = some ⟨oc7, od7, .func (PySem.W.fnOf "_is_rail" "_is_rail" (defArgs s_is_rail) (defBody s_is_rail) (defScope s_is_rail) .none kV7 dc7 pm7 an7 cd7 ct7), sl7⟩) (c7 : PySem.W.codeIn K cd7 "_is_rail" = true) (k7 : PySem.W.keepIn K (.ref f7) = true)
    (a8 : PySem.W.nsIn K mainGlobals "_is_crane" = some (some (.ref f8))) (l8 : K.lookup f8 = some ⟨oc8, od8, .func (PySem.W.fnOf "_is_crane" "_is_crane" (defArgs s_is_crane) (defBody s_is_crane) (defScope s_is_crane) .none kV8 dc8 pm8 an8 cd8 ct8), sl8⟩) (c8 : PySem.W.codeIn K cd8 "_is_crane" = true) (k8 : PySem.W.keepIn K (.ref f8) = true)
    (a9 : PySem.W.nsIn K mainGlobals "_law_cell_at" = some (some (.ref f9))) (l9 : K.lookup f9 = some ⟨oc9, od9, .func (PySem.W.fnOf "_law_cell_at" "_law_cell_at" (defArgs s_l_cell_at) (defBody s_l_cell_at) (defScope s_l_cell_at) .none kV9 dc9 pm9 an9 cd9 ct9), sl9⟩) (c9 : PySem.W.codeIn K cd9 "_law_cell_at" = true) (k9 : PySem.W.keepIn K (.ref f9) = true)
    (a10 : PySem.W.nsIn K mainGlobals "_law_mixed" = some (some (.ref f10))) (l10 : K.lookup f10 = some ⟨oc10, od10, .func (PySem.W.fnOf "_law_mixed" "_law_mixed" (defArgs s_l_mixed) (defBody s_l_mixed) (defScope s_l_mixed) .none kV10 dc10 pm10 an10 cd10 ct10), sl10⟩) (c10 : PySem.W.codeIn K cd10 "_law_mixed" = true) (k10 : PySem.W.keepIn K (.ref f10) = true)
    (a11 : PySem.W.nsIn K mainGlobals "_law_rail" = some (some (.ref f11))) (l11 : K.lookup f11 = some ⟨oc11, od11, .func (PySem.W.fnOf "_law_rail" "_law_rail" (defArgs s_l_rail) (defBody s_l_rail) (defScope s_l_rail) .none kV11 dc11 pm11 an11 cd11 ct11), sl11⟩) (c11 : PySem.W.codeIn K cd11 "_law_rail" = true) (k11 : PySem.W.keepIn K (.ref f11) = true)
    (a12 : PySem.W.nsIn K mainGlobals "_law_ranks" = some (some (.ref f12))) (l12 : K.lookup f12 = some ⟨oc12, od12, .func (PySem.W.fnOf "_law_ranks" "_law_ranks" (defArgs s_l_ranks) (defBody s_l_ranks) (defScope s_l_ranks) .none kV12 dc12 pm12 an12 cd12 ct12), sl12⟩) (c12 : PySem.W.codeIn K cd12 "_law_ranks" = true) (k12 : PySem.W.keepIn K (.ref f12) = true)
    (a13 : PySem.W.nsIn K mainGlobals "_law_goals" = some (some (.ref f13))) (l13 : K.lookup f13 = some ⟨oc13, od13, .func (PySem.W.fnOf "_law_goals" "_law_goals" (defArgs s_l_goals) (defBody s_l_goals) (defScope s_l_goals) .none kV13 dc13 pm13 an13 cd13 ct13), sl13⟩) (c13 : PySem.W.codeIn K cd13 "_law_goals" = true) (k13 : PySem.W.keepIn K (.ref f13) = true)
    (a14 : PySem.W.nsIn K mainGlobals "_law_ends" = some (some (.ref f14))) (l14 : K.lookup f14 = some ⟨oc14, od14, .func (PySem.W.fnOf "_law_ends" "_law_ends" (defArgs s_l_ends) (defBody s_l_ends) (defScope s_l_ends) .none kV14 dc14 pm14 an14 cd14 ct14), sl14⟩) (c14 : PySem.W.codeIn K cd14 "_law_ends" = true) (k14 : PySem.W.keepIn K (.ref f14) = true)
    (a15 : PySem.W.nsIn K mainGlobals "_law_due" = some (some (.ref f15))) (l15 : K.lookup f15 = some ⟨oc15, od15, .func (PySem.W.fnOf "_law_due" "_law_due" (defArgs s_l_due) (defBody s_l_due) (defScope s_l_due) .none kV15 dc15 pm15 an15 cd15 ct15), sl15⟩) (c15 : PySem.W.codeIn K cd15 "_law_due" = true) (k15 : PySem.W.keepIn K (.ref f15) = true)
    (a16 : PySem.W.nsIn K mainGlobals "law" = some (some (.ref f16))) (l16 : K.lookup f16 = some ⟨oc16, od16, .func (PySem.W.fnOf "law" "law" (defArgs s_law) (defBody s_law) (defScope s_law) .none kV16 dc16 pm16 an16 cd16 ct16), sl16⟩) (c16 : PySem.W.codeIn K cd16 "law" = true) (k16 : PySem.W.keepIn K (.ref f16) = true)
    (n_all : PySem.W.nsIn K mainGlobals "all" = some none)
    (n_bool : PySem.W.nsIn K mainGlobals "bool" = some none)
    (n_enumerate : PySem.W.nsIn K mainGlobals "enumerate" = some none)
    (n_int : PySem.W.nsIn K mainGlobals "int" = some none)
    (n_isinstance : PySem.W.nsIn K mainGlobals "isinstance" = some none)
    (n_len : PySem.W.nsIn K mainGlobals "len" = some none)
    (n_list : PySem.W.nsIn K mainGlobals "list" = some none)
    (n_max : PySem.W.nsIn K mainGlobals "max" = some none)
    (n_min : PySem.W.nsIn K mainGlobals "min" = some none)
    (n_range : PySem.W.nsIn K mainGlobals "range" = some none)
    (n_reversed : PySem.W.nsIn K mainGlobals "reversed" = some none)
    (n_tuple : PySem.W.nsIn K mainGlobals "tuple" = some none)
    (n_zip : PySem.W.nsIn K mainGlobals "zip" = some none)
    {tk_GREATEST_END : Tok} (g_GREATEST_END : PySem.W.nsIn K mainGlobals "GREATEST_END" = some (some (.int 1000000000000 tk_GREATEST_END)))
    {tk_GREATEST_HOIST : Tok} (g_GREATEST_HOIST : PySem.W.nsIn K mainGlobals "GREATEST_HOIST" = some (some (.int 1000 tk_GREATEST_HOIST)))
    {tk_GREATEST_ROOM : Tok} (g_GREATEST_ROOM : PySem.W.nsIn K mainGlobals "GREATEST_ROOM" = some (some (.int 1000000 tk_GREATEST_ROOM)))
    {tk_GREATEST_SPEED : Tok} (g_GREATEST_SPEED : PySem.W.nsIn K mainGlobals "GREATEST_SPEED" = some (some (.int 1000000000 tk_GREATEST_SPEED)))
    {tk_MOST_CRANES : Tok} (g_MOST_CRANES : PySem.W.nsIn K mainGlobals "MOST_CRANES" = some (some (.int 6 tk_MOST_CRANES)))
    : ∃ fd : FuncData, (∀ (s : Shared) (v : Value), BindsTo s fd ⟨[v], []⟩ [("_law_script", v)]) ∧ ∀ base : Heap, K.In base → base.Ns mainGlobals mg → FnOk l.prog w K mg base CX0 6 fa fd ["_law_script"] (sp_law K) := by
  have e := hfa.symm.trans (PySem.W.mg_of X G a16)
  cases e
  let T : Tx K mg := ⟨_, _, _, fun_mk (st := s_moved) l0 c0 k0, PySem.W.mg_of X G a0, _, _, fun_mk (st := s_lows) l1 c1 k1, PySem.W.mg_of X G a1, _, _, fun_mk (st := s_highs) l2 c2 k2, PySem.W.mg_of X G a2, _, _, fun_mk (st := s_settle) l3 c3 k3, PySem.W.mg_of X G a3, _, _, fun_mk (st := s_is_among) l4 c4 k4, PySem.W.mg_of X G a4, _, _, fun_mk (st := s_Rail_init) l5 c5 k5, ⟨mk_Rail, a5, i5, kc_Rail⟩, _, _, fun_mk (st := s_Rail_are_apart) l6 c6 k6, ⟨a6, i6, k6⟩, _, _, fun_mk (st := s_is_rail) l7 c7 k7, PySem.W.mg_of X G a7, _, _, fun_mk (st := s_is_crane) l8 c8 k8, PySem.W.mg_of X G a8, _, _, fun_mk (st := s_l_cell_at) l9 c9 k9, PySem.W.mg_of X G a9, _, _, fun_mk (st := s_l_mixed) l10 c10 k10, PySem.W.mg_of X G a10, _, _, fun_mk (st := s_l_rail) l11 c11 k11, PySem.W.mg_of X G a11, _, _, fun_mk (st := s_l_ranks) l12 c12 k12, PySem.W.mg_of X G a12, _, _, fun_mk (st := s_l_goals) l13 c13 k13, PySem.W.mg_of X G a13, _, _, fun_mk (st := s_l_ends) l14 c14 k14, PySem.W.mg_of X G a14, _, _, fun_mk (st := s_l_due) l15 c15 k15, PySem.W.mg_of X G a15, _, _, fun_mk (st := s_law) l16 c16 k16, PySem.W.mg_of X G a16, PySem.W.mg_of X G ac_Rail, ⟨⟨pg_Rail, hd_Rail, po_Rail, sa_Rail⟩, nf_Rail_end, nf_Rail_room, nf_Rail_cranes⟩, PySem.W.mg_none_of X G n_all, PySem.W.mg_none_of X G n_bool, PySem.W.mg_none_of X G n_enumerate, PySem.W.mg_none_of X G n_int, PySem.W.mg_none_of X G n_isinstance, PySem.W.mg_none_of X G n_len, PySem.W.mg_none_of X G n_list, PySem.W.mg_none_of X G n_max, PySem.W.mg_none_of X G n_min, PySem.W.mg_none_of X G n_range, PySem.W.mg_none_of X G n_reversed, PySem.W.mg_none_of X G n_tuple, PySem.W.mg_none_of X G n_zip, _, PySem.W.mg_of X G g_GREATEST_END, _, PySem.W.mg_of X G g_GREATEST_HOIST, _, PySem.W.mg_of X G g_GREATEST_ROOM, _, PySem.W.mg_of X G g_GREATEST_SPEED, _, PySem.W.mg_of X G g_MOST_CRANES⟩
  exact ⟨_, fun s v => .of_eq rfl, fun base _ _ => ok_law T⟩
theorem walk {l : PySem.W.OpenLaw} {q : Program} {loose : List Str} {XP : (Str → Option Value) → Heap → Prop} {YP : World → Heap → Prop} {d : DefRec} {K : Params → PySem.W.Frag} (hn : l.most = some 63) (hdf : d.params.defaults = [])
    (hY : ∀ (w : World) (h : Heap), YP w h → (K w.params).In h)
    (F : ∀ (w : World) (mg : Str → Option Value) (fa : Addr) (h : Heap), (K w.params).In h → h.Ns mainGlobals mg → mg d.name = some (.ref fa) →
      ∃ fd : FuncData, (∀ (s : Shared) (u : Value), BindsTo s fd ⟨[u], []⟩ [("_law_script", u)]) ∧ ∀ base : Heap, (K w.params).In base → base.Ns mainGlobals mg → FnOk l.prog w (K w.params) mg base CX0 6 fa fd ["_law_script"] (sp_law (K w.params))) :
    PySem.W.WalkO q loose XP YP l.row.toRowW d [] (fun f vs => PySem.call f vs) :=
  L2.walk_of (n := 63) (k := 6) (x := "_law_script") (CX := fun _ => CX0) (sp := fun w => sp_law (K w.params)) hn (by decide) hdf ⟨rfl, by decide, by decide⟩ hY F (fun _ H a ns hl _ hS => law_end hl hS) fun _ _ _ _ _ z => z

end L05
open PySem PySem.W PyProof.Rows
set_option maxRecDepth 100000 in
set_option maxHeartbeats 0 in
theorem PySem.Challenge.cw_craneyard_k05_moves_holds : PySem.Challenge.rw_craneyard_k05_moves.Holds := by
  w_on; o_law; k_head; (case hw => w_witness2)
  k_fill
  refine L05.walk (l := PySem.Challenge.rw_craneyard_k05_moves) rfl rfl (fun w h Y => PySem.W.kIn_of Y) ?F
  case F =>
    intro w mg fa h KX G hmg
    refine' L05.all_mk KX G hmg ?ac_Rail ?pg_Rail ?hd_Rail ?po_Rail ?sa_Rail ?mk_Rail ?kc_Rail ?nf_Rail_end ?nf_Rail_room ?nf_Rail_cranes ?a0 ?l0 ?c0 ?k0 ?a1 ?l1 ?c1 ?k1 ?a2 ?l2 ?c2 ?k2 ?a3 ?l3 ?c3 ?k3 ?a4 ?l4 ?c4 ?k4 ?a5 ?i5 ?l5 ?c5 ?k5 ?a6 ?i6 ?l6 ?c6 ?k6 ?a7 ?l7 ?c7 ?k7 ?a8 ?l8 ?c8 ?k8 ?a9 ?l9 ?c9 ?k9 ?a10 ?l10 ?c10 ?k10 ?a11 ?l11 ?c11 ?k11 ?a12 ?l12 ?c12 ?k12 ?a13 ?l13 ?c13 ?k13 ?a14 ?l14 ?c14 ?k14 ?a15 ?l15 ?c15 ?k15 ?a16 ?l16 ?c16 ?k16 ?n_all ?n_bool ?n_enumerate ?n_int ?n_isinstance ?n_len ?n_list ?n_max ?n_min ?n_range ?n_reversed ?n_tuple ?n_zip ?g_GREATEST_END ?g_GREATEST_HOIST ?g_GREATEST_ROOM ?g_GREATEST_SPEED ?g_MOST_CRANES
    (case ac_Rail => k_is)
    (case pg_Rail => k_is)
    (case hd_Rail => k_is)
    (case po_Rail => k_is)
    (case sa_Rail => k_is)
    (case mk_Rail => k_is)
    (case kc_Rail => k_is)
    (case nf_Rail_end => k_is)
    (case nf_Rail_room => k_is)
    (case nf_Rail_cranes => k_is)
    (case a0 => k_is)
    (case l0 => k_is)
    (case c0 => k_is)
    (case k0 => k_is)
    (case a1 => k_is)
    (case l1 => k_is)
    (case c1 => k_is)
    (case k1 => k_is)
    (case a2 => k_is)
    (case l2 => k_is)
    (case c2 => k_is)
    (case k2 => k_is)
    (case a3 => k_is)
    (case l3 => k_is)
    (case c3 => k_is)
    (case k3 => k_is)
    (case a4 => k_is)
    (case l4 => k_is)
    (case c4 => k_is)
    (case k4 => k_is)
    (case a5 => k_is)
    (case i5 => k_is)
    (case l5 => k_is)
    (case c5 => k_is)
    (case k5 => k_is)
    (case a6 => k_is)
    (case i6 => k_is)
    (case l6 => k_is)
    (case c6 => k_is)
    (case k6 => k_is)
    (case a7 => k_is)
    (case l7 => k_is)
    (case c7 => k_is)
    (case k7 => k_is)
    (case a8 => k_is)
    (case l8 => k_is)
    (case c8 => k_is)
    (case k8 => k_is)
    (case a9 => k_is)
    (case l9 => k_is)
    (case c9 => k_is)
    (case k9 => k_is)
    (case a10 => k_is)
    (case l10 => k_is)
    (case c10 => k_is)
    (case k10 => k_is)
    (case a11 => k_is)
    (case l11 => k_is)
    (case c11 => k_is)
    (case k11 => k_is)
    (case a12 => k_is)
    (case l12 => k_is)
    (case c12 => k_is)
    (case k12 => k_is)
    (case a13 => k_is)
    (case l13 => k_is)
    (case c13 => k_is)
    (case k13 => k_is)
    (case a14 => k_is)
    (case l14 => k_is)
    (case c14 => k_is)
    (case k14 => k_is)
    (case a15 => k_is)
    (case l15 => k_is)
    (case c15 => k_is)
    (case k15 => k_is)
    (case a16 => k_is)
    (case l16 => k_is)
    (case c16 => k_is)
    (case k16 => k_is)
    (case n_all => k_is)
    (case n_bool => k_is)
    (case n_enumerate => k_is)
    (case n_int => k_is)
    (case n_isinstance => k_is)
    (case n_len => k_is)
    (case n_list => k_is)
    (case n_max => k_is)
    (case n_min => k_is)
    (case n_range => k_is)
    (case n_reversed => k_is)
    (case n_tuple => k_is)
    (case n_zip => k_is)
    (case g_GREATEST_END => k_is)
    (case g_GREATEST_HOIST => k_is)
    (case g_GREATEST_ROOM => k_is)
    (case g_GREATEST_SPEED => k_is)
    (case g_MOST_CRANES => k_is)
