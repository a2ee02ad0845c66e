import PyProof.Rows.All
import Wide.All
import OpenK.AllK
import Wide.FinOn
import HandS.ForMost
import HandS.Evl
import HandS.Walk
import HandS.IsInst
import HandS.Wide
import HandS.Style
import HandS.RevRange
import HandS.Replace
import HandS.RaiseMore
import HandS.Exc
import HandS.ExcOwn
import HandS.ExcIs
import HandS.ExcValue
import HandS.Conv
import KE.GoesMore
import KE.GoesEnum
import PySem.Challenge.RW_craneyard_k04_spans
set_option Elab.async false
set_option linter.all false
set_option maxRecDepth 100000
set_option maxHeartbeats 2000000
namespace Cy
open PySem L2 Evl

/-! an exception that was caught and is kept: tracked, by its class -/
def ExK (cls : Value) (d : Option Addr) (a : Addr) : HO := .ext fun h => ∃ (oe : Obj) (vs : Array Value), h.get? a = some oe ∧ Zc cls d oe ∧ oe.data = .fields vs

/-! data as trees; how a value bears them -/
inductive D where
  | non
  | bl (b : Bool)
  | int (i : Int)
  | str (s : Str)
  | lst (xs : List D)
  | tup (xs : List D)
  | dic (es : List (Key × D))
  | obj (C : Addr) (fs : List (Str × D))
  | scr (xs : List Int)
  | exc (C : Addr)
  | ptr (a : Addr)

mutual
inductive Rp (K : PySem.W.Frag) (F : Hp) : V → D → Prop
  | non : Rp K F .non .non
  | bl (b : Bool) : Rp K F (.bl b) (.bl b)
  | int (i : Int) : Rp K F (.int i) (.int i)
  | str (x : Str) : Rp K F (.str x) (.str x)
  | lst {a : Addr} {xs : List V} {ds : List D} : F a = some (.lst xs) → RpA K F xs ds → Rp K F (.ref a) (.lst ds)
  | tup {a : Addr} {xs : List V} {ds : List D} : F a = some (.tup xs) → RpA K F xs ds → Rp K F (.ref a) (.tup ds)
  | dic {a : Addr} {kvs : List (Key × V)} {es : List (Key × D)} : F a = some (.dK kvs) → kvs.map (fun p => p.1) = es.map (fun p => p.1) → RpA K F (kvs.map fun p => p.2) (es.map fun p => p.2) → Rp K F (.ref a) (.dic es)
  | obj {a C dx : Addr} {gs : List (Str × V)} {fs : List (Str × D)} : F a = some (.ins C dx gs) → gs.map (fun p => p.1) = fs.map (fun p => p.1) → RpA K F (gs.map fun p => p.2) (fs.map fun p => p.2) → Rp K F (.ref a) (.obj C fs)
  | scr {a : Addr} {ns : List Int} : SqL K F a (ns.map V.int) → Rp K F (.ref a) (.scr ns)
  | exc {a C : Addr} : F a = some (ExK (.ref C) none a) → Rp K F (.ref a) (.exc C)
  | ptr (a : Addr) : Rp K F (.ref a) (.ptr a)
inductive RpA (K : PySem.W.Frag) (F : Hp) : List V → List D → Prop
  | nil : RpA K F [] []
  | cons {v : V} {vs : List V} {d : D} {ds : List D} : Rp K F v d → RpA K F vs ds → RpA K F (v :: vs) (d :: ds)
end

section
variable {K : PySem.W.Frag} {F F' H H' : Hp}
mutual
theorem Rp.mono (e : Ex F F') : ∀ {v : V} {d : D}, Rp K F v d → Rp K F' v d
  | _, _, .non => .non
  | _, _, .bl b => .bl b
  | _, _, .int i => .int i
  | _, _, .str x => .str x
  | _, _, .lst h r => .lst (e _ _ h) (RpA.mono e r)
  | _, _, .tup h r => .tup (e _ _ h) (RpA.mono e r)
  | _, _, .dic h r1 r2 => .dic (e _ _ h) r1 (RpA.mono e r2)
  | _, _, .obj h n r => .obj (e _ _ h) n (RpA.mono e r)
  | _, _, .scr h => .scr (ex_l e h)
  | _, _, .exc h => .exc (e _ _ h)
  | _, _, .ptr a => .ptr a
theorem RpA.mono (e : Ex F F') : ∀ {vs : List V} {ds : List D}, RpA K F vs ds → RpA K F' vs ds
  | _, _, .nil => .nil
  | _, _, .cons r t => .cons (Rp.mono e r) (RpA.mono e t)
end
theorem RpA.length : ∀ {vs : List V} {ds : List D}, RpA K F vs ds → vs.length = ds.length
  | _, _, .nil => rfl
  | _, _, .cons _ t => by rw [List.length_cons, List.length_cons, RpA.length t]
theorem RpA.get : ∀ {vs : List V} {ds : List D} {i : Nat} {d : D}, RpA K F vs ds → ds[i]? = some d → ∃ v, vs[i]? = some v ∧ Rp K F v d
  | _, _, i, d, .nil, h => by simp at h
  | _, _, 0, d, .cons r _, h => by
    simp at h
    subst h
    exact ⟨_, rfl, r⟩
  | _, _, i + 1, d, .cons _ t, h => by
    obtain ⟨v, h1, h2⟩ := RpA.get (i := i) (d := d) t (by simpa using h)
    exact ⟨v, by simpa using h1, h2⟩
theorem RpA.app : ∀ {vs : List V} {ds : List D} {ws : List V} {es : List D}, RpA K F vs ds → RpA K F ws es → RpA K F (vs ++ ws) (ds ++ es)
  | _, _, _, _, .nil, s => s
  | _, _, _, _, .cons r t, s => .cons r (RpA.app t s)
theorem RpA.take : ∀ {vs : List V} {ds : List D} (n : Nat), RpA K F vs ds → RpA K F (vs.take n) (ds.take n)
  | _, _, 0, _ => .nil
  | _, _, _ + 1, .nil => .nil
  | _, _, n + 1, .cons r t => .cons r (RpA.take n t)
theorem RpA.drop : ∀ {vs : List V} {ds : List D} (n : Nat), RpA K F vs ds → RpA K F (vs.drop n) (ds.drop n)
  | _, _, 0, r => r
  | _, _, _ + 1, .nil => .nil
  | _, _, n + 1, .cons _ t => RpA.drop n t
theorem RpA.set {v : V} {d : D} (r : Rp K F v d) : ∀ {vs : List V} {ds : List D} (i : Nat), RpA K F vs ds → RpA K F (vs.set i v) (ds.set i d)
  | _, _, _, .nil => .nil
  | _, _, 0, .cons _ t => .cons r t
  | _, _, i + 1, .cons q t => .cons q (RpA.set r i t)
theorem RpA.erase : ∀ {vs : List V} {ds : List D} (i : Nat), RpA K F vs ds → RpA K F (vs.eraseIdx i) (ds.eraseIdx i)
  | _, _, _, .nil => .nil
  | _, _, 0, .cons _ t => t
  | _, _, i + 1, .cons q t => .cons q (RpA.erase i t)
theorem RpA.rev {vs : List V} {ds : List D} (h : RpA K F vs ds) : RpA K F vs.reverse ds.reverse := by
  induction vs generalizing ds with
  | nil =>
    cases h
    exact .nil
  | cons v vs ih =>
    cases h with
    | cons r t =>
      rw [List.reverse_cons, List.reverse_cons]
      exact RpA.app (ih t) (.cons r .nil)
theorem RpA.ints : ∀ {ns : List Int} {vs : List V}, RpA K F vs (ns.map D.int) → vs = ns.map V.int
  | [], _, h => by
    cases h
    rfl
  | n :: ns, _, h => by
    cases h with
    | cons r t =>
      cases r
      rw [RpA.ints t]
      rfl
theorem RpA.ofInts : ∀ ns : List Int, RpA K F (ns.map V.int) (ns.map D.int)
  | [] => .nil
  | n :: ns => .cons (.int n) (RpA.ofInts ns)
theorem RpA.bls : ∀ {ns : List Bool} {vs : List V}, RpA K F vs (ns.map D.bl) → vs = ns.map V.bl
  | [], _, h => by
    cases h
    rfl
  | n :: ns, _, h => by
    cases h with
    | cons r t =>
      cases r
      rw [RpA.bls t]
      rfl
theorem RpA.strs : ∀ {ns : List Str} {vs : List V}, RpA K F vs (ns.map D.str) → vs = ns.map V.str
  | [], _, h => by
    cases h
    rfl
  | n :: ns, _, h => by
    cases h with
    | cons r t =>
      cases r
      rw [RpA.strs t]
      rfl
end

/-! what stands in the slots -/
inductive Ow where
  | lst (l : List D)
  | ins (a C : Addr) (fs : List (Str × D))
inductive Sl where
  | no
  | dat (d : D)
  | own (w : Ow)
inductive BearO (K : PySem.W.Frag) (F : Hp) : Addr → HO → Ow → Prop
  | lst {p : Addr} {xs : List V} {l : List D} : RpA K F xs l → BearO K F p (.lst xs) (.lst l)
  | ins {a C dx : Addr} {gs : List (Str × V)} {fs : List (Str × D)} : gs.map (fun p => p.1) = fs.map (fun p => p.1) → RpA K F (gs.map fun p => p.2) (fs.map fun p => p.2) → BearO K F a (.ins C dx gs) (.ins a C fs)
theorem BearO.mono {K : PySem.W.Frag} {F F' : Hp} (e : Ex F F') {p : Addr} {o : HO} {w : Ow} (h : BearO K F p o w) : BearO K F' p o w := by
  cases h with
  | lst r => exact .lst (r.mono e)
  | ins n r => exact .ins n (r.mono e)
def datOf : Ow → D
  | .lst l => .lst l
  | .ins _ C fs => .obj C fs
theorem BearO.rp {K : PySem.W.Frag} {F : Hp} {p : Addr} {o : HO} {w : Ow} (h : BearO K F p o w) (hp : F p = some o) : Rp K F (.ref p) (datOf w) := by
  cases h with
  | lst r => exact .lst hp r
  | ins n r => exact .obj hp n r

structure En (K : PySem.W.Frag) (H0 F0 F H : Hp) (σ : L2.St) (G : List Sl) : Prop where
  dat : ∀ (i : Nat) (d : D), G[i]? = some (.dat d) → ∃ v, σ[i]? = some (some v) ∧ Rp K F v d
  own : ∀ (i : Nat) (w : Ow), G[i]? = some (.own w) → ∃ p o, σ[i]? = some (some (.ref p)) ∧ F p = none ∧ H0 p = none ∧ H p = some o ∧ BearO K F p o w
  dis : ∀ (i j : Nat) (li lj : Ow) (p : Addr), i ≠ j → G[i]? = some (.own li) → G[j]? = some (.own lj) → σ[i]? = some (some (.ref p)) → σ[j]? ≠ some (some (.ref p))
  e0 : Ex H0 H
  ef : Ex F H
  e1 : Ex F0 F
  nf : ∀ a o, F a = some o → F0 a = some o ∨ H0 a = none
  len : σ.length = G.length

/-- the new part of F' was free in H -/
def Nw (F F' H : Hp) : Prop := ∀ a o, F' a = some o → F a = some o ∨ H a = none
theorem Nw.refl (F H : Hp) : Nw F F H := fun _ _ h => .inl h

theorem ex_none {H H' : Hp} (e : Ex H H') {a : Addr} (h : H' a = none) : H a = none := fresh_back e h

section
variable {K : PySem.W.Frag} {H0 F0 F F' H H' : Hp} {σ : L2.St} {G : List Sl}
/-- a bigger footprint, a bigger heap -/
theorem En.grow (E : En K H0 F0 F H σ G) (e1 : Ex F F') (e2 : Ex H H') (e3 : Ex F' H') (n : Nw F F' H) : En K H0 F0 F' H' σ G where
  dat := fun i d h => by
    obtain ⟨v, a, b⟩ := E.dat i d h
    exact ⟨v, a, b.mono e1⟩
  own := fun i l h => by
    obtain ⟨p, xs, a, b, c, d, r⟩ := E.own i l h
    refine ⟨p, xs, a, ?_, c, e2 _ _ d, r.mono e1⟩
    cases q : F' p with
    | none => rfl
    | some o =>
      rcases n p o q with z | z
      · rw [b] at z
        cases z
      · rw [d] at z
        cases z
  dis := E.dis
  e0 := E.e0.trans e2
  ef := e3
  e1 := E.e1.trans e1
  nf := fun a o h => by
    rcases n a o h with z | z
    · exact E.nf a o z
    · exact .inr (ex_none E.e0 z)
  len := E.len
/-- a new object joins both -/
theorem nw_upd {p : Addr} {o : HO} (h : H p = none) (n : Nw F F' H) : Nw F (upd F' p o) H := fun a u q => by
  by_cases e : a = p
  · subst e
    exact .inr h
  · rw [upd_ne e] at q
    exact n a u q
theorem ex_upd_both {p : Addr} {o : HO} (e : Ex F H) : Ex (upd F p o) (upd H p o) := fun a u q => by
  by_cases z : a = p
  · subst z
    rw [upd_same] at q ⊢
    exact q
  · rw [upd_ne z] at q ⊢
    exact e a u q
theorem En.setD (E : En K H0 F0 F H σ G) {v : V} {d : D} (r : Rp K F v d) (i : Nat) : En K H0 F0 F H (σ.set i (some v)) (G.set i (.dat d)) where
  dat := fun j e h => by
    by_cases q : i = j
    · subst q
      by_cases hl : i < G.length
      · rw [List.getElem?_set_self hl] at h
        cases h
        exact ⟨v, List.getElem?_set_self (by rw [E.len]; exact hl), r⟩
      · rw [List.getElem?_eq_none (by rw [List.length_set]; omega)] at h
        cases h
    · rw [List.getElem?_set_ne q] at h ⊢
      exact E.dat j e h
  own := fun j l h => by
    by_cases q : i = j
    · subst q
      by_cases hl : i < G.length
      · rw [List.getElem?_set_self hl] at h
        cases h
      · rw [List.getElem?_eq_none (by rw [List.length_set]; omega)] at h
        cases h
    · rw [List.getElem?_set_ne q] at h ⊢
      exact E.own j l h
  dis := fun a b la lb p hab h1 h2 h3 => by
    have na : i ≠ a := fun q => by
      subst q
      by_cases hl : i < G.length
      · rw [List.getElem?_set_self hl] at h1
        cases h1
      · rw [List.getElem?_eq_none (by rw [List.length_set]; omega)] at h1
        cases h1
    have nb : i ≠ b := fun q => by
      subst q
      by_cases hl : i < G.length
      · rw [List.getElem?_set_self hl] at h2
        cases h2
      · rw [List.getElem?_eq_none (by rw [List.length_set]; omega)] at h2
        cases h2
    rw [List.getElem?_set_ne na] at h1 h3
    rw [List.getElem?_set_ne nb] at h2 ⊢
    exact E.dis a b la lb p hab h1 h2 h3
  e0 := E.e0
  ef := E.ef
  e1 := E.e1
  nf := E.nf
  len := by rw [List.length_set, List.length_set, E.len]
theorem En.setO (E : En K H0 F0 F H σ G) {p : Addr} {o : HO} {l : Ow} (hF : F p = none) (h0 : H0 p = none) (hH : H p = some o) (r : BearO K F p o l) (i : Nat)
    (hn : ∀ (j : Nat) (lj : Ow), G[j]? = some (.own lj) → i ≠ j → σ[j]? ≠ some (some (.ref p))) : En K H0 F0 F H (σ.set i (some (.ref p))) (G.set i (.own l)) where
  dat := fun j e h => by
    by_cases q : i = j
    · subst q
      by_cases hl : i < G.length
      · rw [List.getElem?_set_self hl] at h
        cases h
      · rw [List.getElem?_eq_none (by rw [List.length_set]; omega)] at h
        cases h
    · rw [List.getElem?_set_ne q] at h ⊢
      exact E.dat j e h
  own := fun j l' h => by
    by_cases q : i = j
    · subst q
      by_cases hl : i < G.length
      · rw [List.getElem?_set_self hl] at h
        cases h
        exact ⟨p, o, List.getElem?_set_self (by rw [E.len]; exact hl), hF, h0, hH, r⟩
      · rw [List.getElem?_eq_none (by rw [List.length_set]; omega)] at h
        cases h
    · rw [List.getElem?_set_ne q] at h ⊢
      exact E.own j l' h
  dis := fun a b la lb p' hab h1 h2 h3 => by
    by_cases qa : i = a
    · subst qa
      rw [List.getElem?_set_ne hab] at h2 ⊢
      have hl : i < σ.length := by
        have := (List.getElem?_eq_some_iff.mp h3).1
        rw [List.length_set] at this
        exact this
      rw [List.getElem?_set_self hl] at h3
      cases h3
      exact hn b lb h2 hab
    · rw [List.getElem?_set_ne qa] at h1 h3
      by_cases qb : i = b
      · subst qb
        intro z
        have hl : i < σ.length := by
          have := (List.getElem?_eq_some_iff.mp z).1
          rw [List.length_set] at this
          exact this
        rw [List.getElem?_set_self hl] at z
        cases z
        exact hn a la h1 qa h3
      · rw [List.getElem?_set_ne qb] at h2 ⊢
        exact E.dis a b la lb p' hab h1 h2 h3
  e0 := E.e0
  ef := E.ef
  e1 := E.e1
  nf := E.nf
  len := by rw [List.length_set, List.length_set, E.len]
/-- the owned list of slot i becomes xs' -/
theorem En.mut (E : En K H0 F0 F H σ G) {i : Nat} {l : Ow} (h : G[i]? = some (.own l)) {p : Addr} (hp : σ[i]? = some (some (.ref p))) {o' : HO} {l' : Ow} (r : BearO K F p o' l') :
    En K H0 F0 F (upd H p o') σ (G.set i (.own l')) := by
  obtain ⟨p', xs, a, b, c, d, _⟩ := E.own i l h
  have ep : p' = p := by
    rw [hp] at a
    cases a
    rfl
  subst ep
  have hl : i < G.length := (List.getElem?_eq_some_iff.mp h).1
  refine ⟨fun j e q => ?_, fun j m q => ?_, fun x y lx ly p'' hxy h1 h2 h3 => ?_, fun z o q => ?_, fun z o q => ?_, E.e1, E.nf, by rw [List.length_set, E.len]⟩
  · by_cases hij : i = j
    · subst hij
      rw [List.getElem?_set_self hl] at q
      cases q
    · rw [List.getElem?_set_ne hij] at q
      exact E.dat j e q
  · by_cases hij : i = j
    · subst hij
      rw [List.getElem?_set_self hl] at q
      cases q
      exact ⟨p', o', hp, b, c, upd_same, r⟩
    · rw [List.getElem?_set_ne hij] at q
      obtain ⟨p2, xs2, a2, b2, c2, d2, r2⟩ := E.own j m q
      have hne : p2 ≠ p' := fun z => by
        subst z
        exact E.dis i j l m p2 hij h q hp a2
      exact ⟨p2, xs2, a2, b2, c2, by rw [upd_ne hne]; exact d2, r2⟩
  · have w : ∀ (x : Nat) (lx : Ow), (G.set i (.own l'))[x]? = some (.own lx) → ∃ m, G[x]? = some (.own m) := fun x lx q => by
      by_cases hix : i = x
      · subst hix
        exact ⟨l, h⟩
      · rw [List.getElem?_set_ne hix] at q
        exact ⟨lx, q⟩
    obtain ⟨m1, q1⟩ := w x lx h1
    obtain ⟨m2, q2⟩ := w y ly h2
    exact E.dis x y m1 m2 p'' hxy q1 q2 h3
  · have hne : z ≠ p' := fun y => by
      subst y
      rw [c] at q
      cases q
    rw [upd_ne hne]
    exact E.e0 z o q
  · have hne : z ≠ p' := fun y => by
      subst y
      rw [b] at q
      cases q
    rw [upd_ne hne]
    exact E.ef z o q
/-- an owned list is shared from here on -/
theorem En.freeze (E : En K H0 F0 F H σ G) {i : Nat} {l : Ow} (h : G[i]? = some (.own l)) : ∃ F', Ex F F' ∧ En K H0 F0 F' H σ (G.set i (.dat (datOf l))) := by
  obtain ⟨p, xs, a, b, c, d, r⟩ := E.own i l h
  have hl : i < G.length := (List.getElem?_eq_some_iff.mp h).1
  have ef : Ex F (upd F p xs) := Ex.new b
  refine ⟨upd F p xs, ef, fun j e q => ?_, fun j m q => ?_, fun x y lx ly p'' hxy h1 h2 h3 => ?_, E.e0, fun z o q => ?_, E.e1.trans ef, fun z o q => ?_, by rw [List.length_set, E.len]⟩
  · by_cases hij : i = j
    · subst hij
      rw [List.getElem?_set_self hl] at q
      cases q
      exact ⟨_, a, (r.mono ef).rp upd_same⟩
    · rw [List.getElem?_set_ne hij] at q
      obtain ⟨v, q1, q2⟩ := E.dat j e q
      exact ⟨v, q1, q2.mono ef⟩
  · by_cases hij : i = j
    · subst hij
      rw [List.getElem?_set_self hl] at q
      cases q
    · rw [List.getElem?_set_ne hij] at q
      obtain ⟨p2, xs2, a2, b2, c2, d2, r2⟩ := E.own j m q
      have hne : p2 ≠ p := fun z => by
        subst z
        exact E.dis i j l m p2 hij h q a a2
      exact ⟨p2, xs2, a2, by rw [upd_ne hne]; exact b2, c2, d2, r2.mono ef⟩
  · have nx : i ≠ x := fun z => by
      subst z
      rw [List.getElem?_set_self hl] at h1
      cases h1
    have ny : i ≠ y := fun z => by
      subst z
      rw [List.getElem?_set_self hl] at h2
      cases h2
    rw [List.getElem?_set_ne nx] at h1
    rw [List.getElem?_set_ne ny] at h2
    exact E.dis x y lx ly p'' hxy h1 h2 h3
  · by_cases hz : z = p
    · subst hz
      rw [upd_same] at q
      cases q
      exact d
    · rw [upd_ne hz] at q
      exact E.ef z o q
  · by_cases hz : z = p
    · subst hz
      exact .inr c
    · rw [upd_ne hz] at q
      exact E.nf z o q
end
end Cy

set_option Elab.async false
set_option linter.all false
set_option maxRecDepth 100000
set_option maxHeartbeats 2000000
namespace Cy
open PySem L2 Evl

/-! expressions over the data in the slots -/
structure EvD (K : PySem.W.Frag) (te : TE) (G : List Sl) (d : D) : Prop where
  run : ∀ {H0 F0 F H : Hp} {σ : L2.St}, En K H0 F0 F H σ G → ∀ Q : VK, (∀ v F' H', En K H0 F0 F' H' σ G → Ex F F' → Ex H H' → Nw F F' H → Rp K F' v d → Q v H') → te σ H Q
instance {K : PySem.W.Frag} {te : TE} {G : List Sl} {d : D} : CoeFun (EvD K te G d) fun _ => ∀ {H0 F0 F H : Hp} {σ : L2.St}, En K H0 F0 F H σ G → ∀ Q : VK, (∀ v F' H', En K H0 F0 F' H' σ G → Ex F F' → Ex H H' → Nw F F' H → Rp K F' v d → Q v H') → te σ H Q := ⟨fun h => h.run⟩
/-- a new list of its own -/
structure EvO (K : PySem.W.Frag) (te : TE) (G : List Sl) (l : List D) : Prop where
  run : ∀ {H0 F0 F H : Hp} {σ : L2.St}, En K H0 F0 F H σ G → ∀ Q : VK, (∀ p xs F' H', En K H0 F0 F' H' σ G → Ex F F' → Ex H H' → Nw F F' H → H p = none → F' p = none → H' p = some (.lst xs) → RpA K F' xs l → Q (.ref p) H') → te σ H Q
instance {K : PySem.W.Frag} {te : TE} {G : List Sl} {l : List D} : CoeFun (EvO K te G l) fun _ => ∀ {H0 F0 F H : Hp} {σ : L2.St}, En K H0 F0 F H σ G → ∀ Q : VK, (∀ p xs F' H', En K H0 F0 F' H' σ G → Ex F F' → Ex H H' → Nw F F' H → H p = none → F' p = none → H' p = some (.lst xs) → RpA K F' xs l → Q (.ref p) H') → te σ H Q := ⟨fun h => h.run⟩
structure EvTt (K : PySem.W.Frag) (tt : TT) (G : List Sl) (b : Bool) : Prop where
  run : ∀ {H0 F0 F H : Hp} {σ : L2.St}, En K H0 F0 F H σ G → ∀ Q : Bool → Hp → Prop, (∀ F' H', En K H0 F0 F' H' σ G → Ex F F' → Ex H H' → Nw F F' H → Q b H') → tt σ H Q
instance {K : PySem.W.Frag} {tt : TT} {G : List Sl} {b : Bool} : CoeFun (EvTt K tt G b) fun _ => ∀ {H0 F0 F H : Hp} {σ : L2.St}, En K H0 F0 F H σ G → ∀ Q : Bool → Hp → Prop, (∀ F' H', En K H0 F0 F' H' σ G → Ex F F' → Ex H H' → Nw F F' H → Q b H') → tt σ H Q := ⟨fun h => h.run⟩
structure EvS (K : PySem.W.Frag) (ta : TA) (G : List Sl) (ds : List D) : Prop where
  run : ∀ {H0 F0 F H : Hp} {σ : L2.St}, En K H0 F0 F H σ G → ∀ Q : List V → Hp → Prop, (∀ vs F' H', En K H0 F0 F' H' σ G → Ex F F' → Ex H H' → Nw F F' H → RpA K F' vs ds → Q vs H') → ta σ H Q
instance {K : PySem.W.Frag} {ta : TA} {G : List Sl} {ds : List D} : CoeFun (EvS K ta G ds) fun _ => ∀ {H0 F0 F H : Hp} {σ : L2.St}, En K H0 F0 F H σ G → ∀ Q : List V → Hp → Prop, (∀ vs F' H', En K H0 F0 F' H' σ G → Ex F F' → Ex H H' → Nw F F' H → RpA K F' vs ds → Q vs H') → ta σ H Q := ⟨fun h => h.run⟩
structure EvP (K : PySem.W.Frag) (to : TO) (G : List Sl) (o : Option Int) : Prop where
  run : ∀ {H0 F0 F H : Hp} {σ : L2.St}, En K H0 F0 F H σ G → ∀ Q : Option Int → Hp → Prop, (∀ F' H', En K H0 F0 F' H' σ G → Ex F F' → Ex H H' → Nw F F' H → Q o H') → to σ H Q
instance {K : PySem.W.Frag} {to : TO} {G : List Sl} {o : Option Int} : CoeFun (EvP K to G o) fun _ => ∀ {H0 F0 F H : Hp} {σ : L2.St}, En K H0 F0 F H σ G → ∀ Q : Option Int → Hp → Prop, (∀ F' H', En K H0 F0 F' H' σ G → Ex F F' → Ex H H' → Nw F F' H → Q o H') → to σ H Q := ⟨fun h => h.run⟩
/-- operations on values -/
structure Op2 (K : PySem.W.Frag) (r : R2) (a b c : D) : Prop where
  run : ∀ {F H : Hp} {x y : V}, Ex F H → Rp K F x a → Rp K F y b → ∀ Q : VK, (∀ v F' H', Ex F F' → Ex F' H' → Ex H H' → Nw F F' H → Rp K F' v c → Q v H') → r x y H Q
instance {K : PySem.W.Frag} {r : R2} {a b c : D} : CoeFun (Op2 K r a b c) fun _ => ∀ {F H : Hp} {x y : V}, Ex F H → Rp K F x a → Rp K F y b → ∀ Q : VK, (∀ v F' H', Ex F F' → Ex F' H' → Ex H H' → Nw F F' H → Rp K F' v c → Q v H') → r x y H Q := ⟨fun h => h.run⟩
structure Op2O (K : PySem.W.Frag) (r : R2) (a b : D) (l : List D) : Prop where
  run : ∀ {F H : Hp} {x y : V}, Ex F H → Rp K F x a → Rp K F y b → ∀ Q : VK, (∀ p xs H', Ex H H' → H p = none → H' p = some (.lst xs) → RpA K F xs l → Q (.ref p) H') → r x y H Q
instance {K : PySem.W.Frag} {r : R2} {a b : D} {l : List D} : CoeFun (Op2O K r a b l) fun _ => ∀ {F H : Hp} {x y : V}, Ex F H → Rp K F x a → Rp K F y b → ∀ Q : VK, (∀ p xs H', Ex H H' → H p = none → H' p = some (.lst xs) → RpA K F xs l → Q (.ref p) H') → r x y H Q := ⟨fun h => h.run⟩
structure Op1 (K : PySem.W.Frag) (r : V → Hp → VK → Prop) (a c : D) : Prop where
  run : ∀ {F H : Hp} {x : V}, Ex F H → Rp K F x a → ∀ Q : VK, (∀ v F' H', Ex F F' → Ex F' H' → Ex H H' → Nw F F' H → Rp K F' v c → Q v H') → r x H Q
instance {K : PySem.W.Frag} {r : V → Hp → VK → Prop} {a c : D} : CoeFun (Op1 K r a c) fun _ => ∀ {F H : Hp} {x : V}, Ex F H → Rp K F x a → ∀ Q : VK, (∀ v F' H', Ex F F' → Ex F' H' → Ex H H' → Nw F F' H → Rp K F' v c → Q v H') → r x H Q := ⟨fun h => h.run⟩
structure OpN (K : PySem.W.Frag) (r : List V → Hp → VK → Prop) (ds : List D) (c : D) : Prop where
  run : ∀ {F H : Hp} {vs : List V}, Ex F H → RpA K F vs ds → ∀ Q : VK, (∀ v F' H', Ex F F' → Ex F' H' → Ex H H' → Nw F F' H → Rp K F' v c → Q v H') → r vs H Q
instance {K : PySem.W.Frag} {r : List V → Hp → VK → Prop} {ds : List D} {c : D} : CoeFun (OpN K r ds c) fun _ => ∀ {F H : Hp} {vs : List V}, Ex F H → RpA K F vs ds → ∀ Q : VK, (∀ v F' H', Ex F F' → Ex F' H' → Ex H H' → Nw F F' H → Rp K F' v c → Q v H') → r vs H Q := ⟨fun h => h.run⟩
structure OpNO (K : PySem.W.Frag) (r : List V → Hp → VK → Prop) (ds : List D) (l : List D) : Prop where
  run : ∀ {F H : Hp} {vs : List V}, Ex F H → RpA K F vs ds → ∀ Q : VK, (∀ p xs H', Ex H H' → H p = none → H' p = some (.lst xs) → RpA K F xs l → Q (.ref p) H') → r vs H Q
instance {K : PySem.W.Frag} {r : List V → Hp → VK → Prop} {ds : List D} {l : List D} : CoeFun (OpNO K r ds l) fun _ => ∀ {F H : Hp} {vs : List V}, Ex F H → RpA K F vs ds → ∀ Q : VK, (∀ p xs H', Ex H H' → H p = none → H' p = some (.lst xs) → RpA K F xs l → Q (.ref p) H') → r vs H Q := ⟨fun h => h.run⟩

section
variable {K : PySem.W.Frag} {G : List Sl} {ta tb te tx : TE} {t u : TT} {a b c d : D} {r : R2}
theorem Nw.trans {F F1 F2 H H1 : Hp} (a : Nw F F1 H) (b : Nw F1 F2 H1) (e : Ex H H1) : Nw F F2 H := fun x o h => by
  rcases b x o h with z | z
  · exact a x o z
  · exact .inr (ex_none e z)
theorem e_var {i : Nat} (h : G[i]? = some (.dat d)) : EvD K (tVar i) G d := .mk fun {H0 F0 F H σ} E Q q => by
  obtain ⟨v, h1, h2⟩ := E.dat i d h
  exact ⟨v, h1, q v F H E (Ex.refl F) (Ex.refl H) (Nw.refl F H) h2⟩
theorem e_none : EvD K (tC .non) G .non := .mk fun {H0 F0 F H σ} E Q q => q _ F H E (Ex.refl F) (Ex.refl H) (Nw.refl F H) .non
theorem e_int {i : Int} : EvD K (tC (.int i)) G (.int i) := .mk fun {H0 F0 F H σ} E Q q => q _ F H E (Ex.refl F) (Ex.refl H) (Nw.refl F H) (.int i)
theorem e_bl {i : Bool} : EvD K (tC (.bl i)) G (.bl i) := .mk fun {H0 F0 F H σ} E Q q => q _ F H E (Ex.refl F) (Ex.refl H) (Nw.refl F H) (.bl i)
theorem e_str {i : Str} : EvD K (tC (.str i)) G (.str i) := .mk fun {H0 F0 F H σ} E Q q => q _ F H E (Ex.refl F) (Ex.refl H) (Nw.refl F H) (.str i)
theorem e_is (h : EvD K te G a) (e : a = b) : EvD K te G b := e ▸ h
theorem t_is {x y : Bool} (h : EvTt K t G x) (e : x = y) : EvTt K t G y := e ▸ h
theorem e_op (h1 : EvD K ta G a) (h2 : EvD K tb G b) (h3 : Op2 K r a b c) : EvD K (tOp r ta tb) G c := .mk fun {H0 F0 F H σ} E Q q =>
  h1 E _ fun v F1 H1 E1 f1 g1 n1 r1 => h2 E1 _ fun w F2 H2 E2 f2 g2 n2 r2 => h3 E2.ef (r1.mono f2) r2 Q fun z F3 H3 f3 k3 g3 n3 r3 =>
    q z F3 H3 (E2.grow f3 g3 k3 n3) ((f1.trans f2).trans f3) ((g1.trans g2).trans g3) ((n1.trans n2 g1).trans n3 (g1.trans g2)) r3
theorem o_op {l : List D} (h1 : EvD K ta G a) (h2 : EvD K tb G b) (h3 : Op2O K r a b l) : EvO K (tOp r ta tb) G l := .mk fun {H0 F0 F H σ} E Q q =>
  h1 E _ fun v F1 H1 E1 f1 g1 n1 r1 => h2 E1 _ fun w F2 H2 E2 f2 g2 n2 r2 => h3 E2.ef (r1.mono f2) r2 Q fun p xs H3 g3 hp hp3 r3 =>
    q p xs F2 H3 (E2.grow (Ex.refl _) g3 (E2.ef.trans g3) (Nw.refl _ _)) (f1.trans f2) ((g1.trans g2).trans g3) (n1.trans n2 g1) (ex_none (g1.trans g2) hp) (ex_none E2.ef hp) hp3 r3
/-- a new list, shared -/
theorem e_share {l : List D} (h : EvO K te G l) : EvD K te G (.lst l) := .mk fun {H0 F0 F H σ} E Q q => h E Q fun p xs F1 H1 E1 f1 g1 n1 hp hf h1 r1 => by
  have ef : Ex F1 (upd F1 p (.lst xs)) := Ex.new hf
  have n2 : Nw F (upd F1 p (.lst xs)) H := nw_upd hp n1
  refine q (.ref p) (upd F1 p (.lst xs)) H1 (E.grow (f1.trans ef) g1 (fun z o y => ?_) n2) (f1.trans ef) g1 n2 (.lst upd_same (r1.mono ef))
  by_cases hz : z = p
  · subst hz
    rw [upd_same] at y
    cases y
    exact h1
  · rw [upd_ne hz] at y
    exact E1.ef z o y
theorem e_un {r : V → Hp → VK → Prop} (h1 : EvD K ta G a) (h3 : Op1 K r a c) : EvD K (tUn r ta) G c := .mk fun {H0 F0 F H σ} E Q q =>
  h1 E _ fun v F1 H1 E1 f1 g1 n1 r1 => h3 E1.ef r1 Q fun z F3 H3 f3 k3 g3 n3 r3 => q z F3 H3 (E1.grow f3 g3 k3 n3) (f1.trans f3) (g1.trans g3) (n1.trans n3 g1) r3
theorem s_nil : EvS K tNil G [] := .mk fun {H0 F0 F H σ} E Q q => q [] F H E (Ex.refl F) (Ex.refl H) (Nw.refl F H) .nil
theorem s_cons {tr : TA} {ds : List D} (h : EvD K ta G a) (hr : EvS K tr G ds) : EvS K (tCons ta tr) G (a :: ds) := .mk fun {H0 F0 F H σ} E Q q =>
  h E _ fun v F1 H1 E1 f1 g1 n1 r1 => hr E1 _ fun vs F2 H2 E2 f2 g2 n2 r2 => q (v :: vs) F2 H2 E2 (f1.trans f2) (g1.trans g2) (n1.trans n2 g1) (.cons (r1.mono f2) r2)
theorem e_tup {ta : TA} {ds : List D} (h : EvS K ta G ds) (hl : ds.length ≤ 100000) : EvD K (tTup ta) G (.tup ds) := .mk fun {H0 F0 F H σ} E Q q =>
  h E _ fun vs F1 H1 E1 f1 g1 n1 r1 => ⟨sz_of (by rw [r1.length]; exact hl), fun p hp => by
    have ef : Ex F1 (upd F1 p (.tup vs)) := Ex.new (ex_none E1.ef hp)
    have n2 : Nw F1 (upd F1 p (.tup vs)) H1 := nw_upd hp (Nw.refl _ _)
    exact q _ _ _ (E1.grow ef (Ex.new hp) (ex_upd_both E1.ef) n2) (f1.trans ef) (g1.trans (Ex.new hp)) (n1.trans n2 g1) (.tup upd_same (r1.mono ef))⟩
theorem o_lst {ta : TA} {ds : List D} (h : EvS K ta G ds) (hl : ds.length ≤ 100000) : EvO K (tLst ta) G ds := .mk fun {H0 F0 F H σ} E Q q =>
  h E _ fun vs F1 H1 E1 f1 g1 n1 r1 => ⟨sz_of (by rw [r1.length]; exact hl), fun p hp =>
    q p vs F1 _ (E1.grow (Ex.refl _) (Ex.new hp) (E1.ef.trans (Ex.new hp)) (Nw.refl _ _)) f1 (g1.trans (Ex.new hp)) n1 (ex_none g1 hp) (ex_none E1.ef hp) upd_same r1⟩
theorem e_cb {r : List V → Hp → VK → Prop} {ta : TA} {ds : List D} (h : EvS K ta G ds) (hr : OpN K r ds c) : EvD K (tCB r ta) G c := .mk fun {H0 F0 F H σ} E Q q =>
  h E _ fun vs F1 H1 E1 f1 g1 n1 r1 => hr E1.ef r1 Q fun z F3 H3 f3 k3 g3 n3 r3 => q z F3 H3 (E1.grow f3 g3 k3 n3) (f1.trans f3) (g1.trans g3) (n1.trans n3 g1) r3
theorem o_cb {r : List V → Hp → VK → Prop} {ta : TA} {ds l : List D} (h : EvS K ta G ds) (hr : OpNO K r ds l) : EvO K (tCB r ta) G l := .mk fun {H0 F0 F H σ} E Q q =>
  h E _ fun vs F1 H1 E1 f1 g1 n1 r1 => hr E1.ef r1 Q fun p xs H3 g3 hp hp3 r3 => q p xs F1 H3 (E1.grow (Ex.refl _) g3 (E1.ef.trans g3) (Nw.refl _ _)) f1 (g1.trans g3) n1 (ex_none g1 hp) (ex_none E1.ef hp) hp3 r3
/-! tests -/
theorem t_test {x : Bool} (h : EvD K te G (.bl x)) : EvTt K (tTest te) G x := .mk fun {H0 F0 F H σ} E Q q => h E _ fun v F1 H1 E1 f1 g1 n1 r1 => by
  cases r1
  exact ⟨x, rfl, q F1 H1 E1 f1 g1 n1⟩
theorem t_B {x : Bool} (h : EvD K te G (.bl x)) : EvTt K (tB te) G x := .mk fun {H0 F0 F H σ} E Q q => h E _ fun v F1 H1 E1 f1 g1 n1 r1 => by
  cases r1
  exact ⟨x, rfl, q F1 H1 E1 f1 g1 n1⟩
theorem t_and {x y : Bool} (h1 : EvTt K t G x) (h2 : x = true → EvTt K u G y) : EvTt K (tAnd t u) G (x && y) := .mk fun {H0 F0 F H σ} E Q q => h1 E _ fun F1 H1 E1 f1 g1 n1 => by
  cases x with
  | true =>
    show u σ H1 Q
    exact h2 rfl E1 Q fun F2 H2 E2 f2 g2 n2 => q F2 H2 E2 (f1.trans f2) (g1.trans g2) (n1.trans n2 g1)
  | false =>
    show Q false H1
    exact q F1 H1 E1 f1 g1 n1
theorem t_or {x y : Bool} (h1 : EvTt K t G x) (h2 : x = false → EvTt K u G y) : EvTt K (tOr t u) G (x || y) := .mk fun {H0 F0 F H σ} E Q q => h1 E _ fun F1 H1 E1 f1 g1 n1 => by
  cases x with
  | false =>
    show u σ H1 Q
    exact h2 rfl E1 Q fun F2 H2 E2 f2 g2 n2 => q F2 H2 E2 (f1.trans f2) (g1.trans g2) (n1.trans n2 g1)
  | true =>
    show Q true H1
    exact q F1 H1 E1 f1 g1 n1
theorem t_not {x : Bool} (h1 : EvTt K t G x) : EvTt K (tNot t) G (!x) := .mk fun {H0 F0 F H σ} E Q q => h1 E _ fun F1 H1 E1 f1 g1 n1 => q F1 H1 E1 f1 g1 n1
theorem t_yes : EvTt K tYes G true := .mk fun {H0 F0 F H σ} E Q q => q F H E (Ex.refl F) (Ex.refl H) (Nw.refl F H)
theorem e_andV {x y : Bool} (h1 : EvD K ta G (.bl x)) (h2 : x = true → EvD K tb G (.bl y)) : EvD K (tAndV ta tb) G (.bl (x && y)) := .mk fun {H0 F0 F H σ} E Q q => h1 E _ fun v F1 H1 E1 f1 g1 n1 r1 => by
  cases r1
  refine ⟨x, rfl, ?_⟩
  cases x with
  | true =>
    show tb σ H1 Q
    exact h2 rfl E1 Q fun w F2 H2 E2 f2 g2 n2 r2 => q w F2 H2 E2 (f1.trans f2) (g1.trans g2) (n1.trans n2 g1) r2
  | false =>
    show Q (.bl false) H1
    exact q _ F1 H1 E1 f1 g1 n1 (.bl _)
theorem e_orV {x y : Bool} (h1 : EvD K ta G (.bl x)) (h2 : x = false → EvD K tb G (.bl y)) : EvD K (tOrV ta tb) G (.bl (x || y)) := .mk fun {H0 F0 F H σ} E Q q => h1 E _ fun v F1 H1 E1 f1 g1 n1 r1 => by
  cases r1
  refine ⟨x, rfl, ?_⟩
  cases x with
  | false =>
    show tb σ H1 Q
    exact h2 rfl E1 Q fun w F2 H2 E2 f2 g2 n2 r2 => q w F2 H2 E2 (f1.trans f2) (g1.trans g2) (n1.trans n2 g1) r2
  | true =>
    show Q (.bl true) H1
    exact q _ F1 H1 E1 f1 g1 n1 (.bl _)
theorem e_notV {x : Bool} (h1 : EvD K ta G (.bl x)) : EvD K (tNotV ta) G (.bl (!x)) := .mk fun {H0 F0 F H σ} E Q q => h1 E _ fun v F1 H1 E1 f1 g1 n1 r1 => by
  cases r1
  exact ⟨x, rfl, q _ F1 H1 E1 f1 g1 n1 (.bl _)⟩
theorem e_if {x : Bool} (h : EvTt K t G x) (h1 : x = true → EvD K ta G d) (h2 : x = false → EvD K tb G d) : EvD K (tIf t ta tb) G d := .mk fun {H0 F0 F H σ} E Q q => h E _ fun F1 H1 E1 f1 g1 n1 => by
  cases x with
  | true =>
    show ta σ H1 Q
    exact h1 rfl E1 Q fun w F2 H2 E2 f2 g2 n2 r2 => q w F2 H2 E2 (f1.trans f2) (g1.trans g2) (n1.trans n2 g1) r2
  | false =>
    show tb σ H1 Q
    exact h2 rfl E1 Q fun w F2 H2 E2 f2 g2 n2 r2 => q w F2 H2 E2 (f1.trans f2) (g1.trans g2) (n1.trans n2 g1) r2
theorem e_ite {p : Prop} [Decidable p] {x : Bool} (h : EvTt K t G x) (hx : x = decide p) (h1 : p → EvD K ta G a) (h2 : ¬ p → EvD K tb G b) : EvD K (tIf t ta tb) G (if p then a else b) := by
  subst hx
  refine e_if h (fun q => ?_) (fun q => ?_)
  · rw [if_pos (of_decide_eq_true q)]
    exact h1 (of_decide_eq_true q)
  · rw [if_neg (of_decide_eq_false q)]
    exact h2 (of_decide_eq_false q)
/-- a chain of two comparisons -/
theorem e_chain {r r' : R2} {tc : TE} {x y : Bool} (h1 : EvD K ta G a) (h2 : EvD K tb G b) (h3 : Op2 K r a b (.bl x)) (h4 : x = true → EvD K tc G c) (h5 : x = true → Op2 K r' b c (.bl y)) : EvD K (tChain r r' ta tb tc) G (.bl (x && y)) := .mk fun {H0 F0 F H σ} E Q q =>
  h1 E _ fun v F1 H1 E1 f1 g1 n1 r1 => h2 E1 _ fun w F2 H2 E2 f2 g2 n2 r2 => h3 E2.ef (r1.mono f2) r2 _ fun z F3 H3 f3 k3 g3 n3 r3 => by
    cases r3
    refine ⟨x, rfl, ?_⟩
    have E3 := E2.grow f3 g3 k3 n3
    have N3 := ((n1.trans n2 g1).trans n3 (g1.trans g2))
    cases x with
    | true =>
      show tc σ H3 fun w' H4 => r' w w' H4 Q
      exact h4 rfl E3 _ fun w4 F4 H4 E4 f4 g4 n4 r4 => h5 rfl E4.ef (r2.mono (f3.trans f4)) r4 Q fun z5 F5 H5 f5 k5 g5 n5 r5 =>
        q z5 F5 H5 (E4.grow f5 g5 k5 n5) ((((f1.trans f2).trans f3).trans f4).trans f5) ((((g1.trans g2).trans g3).trans g4).trans g5) ((N3.trans n4 ((g1.trans g2).trans g3)).trans n5 (((g1.trans g2).trans g3).trans g4)) r5
    | false =>
      show Q (.bl false) H3
      exact q _ F3 H3 E3 ((f1.trans f2).trans f3) ((g1.trans g2).trans g3) N3 (.bl _)
theorem p_none : EvP K tNoPart G none := .mk fun {H0 F0 F H σ} E Q q => q F H E (Ex.refl F) (Ex.refl H) (Nw.refl F H)
theorem p_some {i : Int} (h : EvD K te G (.int i)) : EvP K (tPart te) G (some i) := .mk fun {H0 F0 F H σ} E Q q => h E _ fun v F1 H1 E1 f1 g1 n1 r1 => by
  cases r1
  exact ⟨i, rfl, q F1 H1 E1 f1 g1 n1⟩
/-- what is read of an owned list for a moment -/
theorem e_peek {i : Nat} {l : Ow} (h : G[i]? = some (.own l)) (hv : EvD K te (G.set i (.dat (datOf l))) d) (hd : ∀ {F F' : Hp} {v : V}, Rp K F v d → Rp K F' v d) : EvD K te G d := .mk fun {H0 F0 F H σ} E Q q => by
  obtain ⟨F1, f1, E1⟩ := E.freeze h
  refine hv E1 Q fun v F2 H2 E2 f2 g2 n2 r2 => q v F H2 ?_ (Ex.refl F) g2 (Nw.refl F H) (hd r2)
  exact E.grow (Ex.refl F) g2 (E.ef.trans g2) (Nw.refl F H)
theorem t_peek {i : Nat} {l : Ow} {x : Bool} (h : G[i]? = some (.own l)) (hv : EvTt K t (G.set i (.dat (datOf l))) x) : EvTt K t G x := .mk fun {H0 F0 F H σ} E Q q => by
  obtain ⟨F1, f1, E1⟩ := E.freeze h
  refine hv E1 Q fun F2 H2 E2 f2 g2 n2 => q F H2 ?_ (Ex.refl F) g2 (Nw.refl F H)
  exact E.grow (Ex.refl F) g2 (E.ef.trans g2) (Nw.refl F H)
end
theorem fix_int {K : PySem.W.Frag} {i : Int} {F F' : Hp} {v : V} (h : Rp K F v (.int i)) : Rp K F' v (.int i) := by
  cases h
  exact .int i
theorem fix_bl {K : PySem.W.Frag} {i : Bool} {F F' : Hp} {v : V} (h : Rp K F v (.bl i)) : Rp K F' v (.bl i) := by
  cases h
  exact .bl i
theorem fix_str {K : PySem.W.Frag} {i : Str} {F F' : Hp} {v : V} (h : Rp K F v (.str i)) : Rp K F' v (.str i) := by
  cases h
  exact .str i
theorem fix_non {K : PySem.W.Frag} {F F' : Hp} {v : V} (h : Rp K F v .non) : Rp K F' v .non := by
  cases h
  exact .non

/-! statements -/
inductive Out where
  | nx (G : List Sl)
  | rt (d : D)
  | ro (l : List D)
  | ro2 (l m : List D)
  | ex (C : Addr) (X : XK)
  | bk (G : List Sl)
  | ct (G : List Sl)
/-- what a return leaves -/
structure Ro (H0 F0 F' H' : Hp) : Prop where
  e0 : Ex H0 H'
  ef : Ex F' H'
  e1 : Ex F0 F'
  nf : ∀ a o, F' a = some o → F0 a = some o ∨ H0 a = none
theorem En.ro {K : PySem.W.Frag} {H0 F0 F H : Hp} {σ : L2.St} {G : List Sl} (E : En K H0 F0 F H σ G) : Ro H0 F0 F H := ⟨E.e0, E.ef, E.e1, E.nf⟩
def Post (K : PySem.W.Frag) (H0 F0 F : Hp) (o : Out) (E : Ends) : Prop := match o with
  | .nx G => ∀ σ F' H', En K H0 F0 F' H' σ G → Ex F F' → E.nx σ H'
  | .bk G => ∀ σ F' H', En K H0 F0 F' H' σ G → Ex F F' → E.bk σ H'
  | .ct G => ∀ σ F' H', En K H0 F0 F' H' σ G → Ex F F' → E.ct σ H'
  | .rt d => ∀ v F' H', Ro H0 F0 F' H' → Rp K F' v d → E.rt v H'
  | .ro l => ∀ p xs F' H', Ro H0 F0 F' H' → H0 p = none → F' p = none → H' p = some (.lst xs) → RpA K F' xs l → E.rt (.ref p) H'
  | .ro2 l m => ∀ t p xs q ys F' H', Ro H0 F0 F' H' → H' t = some (.tup [.ref p, .ref q]) → p ≠ q → H0 p = none → F' p = none → H' p = some (.lst xs) → RpA K F' xs l → H0 q = none → F' q = none → H' q = some (.lst ys) → RpA K F' ys m → E.rt (.ref t) H'
  | .ex C X => ∀ F' H', Ro H0 F0 F' H' → X (.ref C) none H'
structure StD (K : PySem.W.Frag) (t : TS) (G : List Sl) (o : Out) : Prop where
  run : ∀ {H0 F0 F H : Hp} {σ : L2.St} {E : Ends}, En K H0 F0 F H σ G → Post K H0 F0 F o E → t E σ H
instance {K : PySem.W.Frag} {t : TS} {G : List Sl} {o : Out} : CoeFun (StD K t G o) fun _ => ∀ {H0 F0 F H : Hp} {σ : L2.St} {E : Ends}, En K H0 F0 F H σ G → Post K H0 F0 F o E → t E σ H := ⟨fun h => h.run⟩
/-- assigning to a target -/
structure TgD (K : PySem.W.Frag) (g : TG) (G : List Sl) (d : D) (G' : List Sl) : Prop where
  run : ∀ {H0 F0 F H : Hp} {σ : L2.St} {v : V}, En K H0 F0 F H σ G → Rp K F v d → ∀ Q : L2.St → Hp → Prop, (∀ σ', En K H0 F0 F H σ' G' → Q σ' H) → g v σ H Q
instance {K : PySem.W.Frag} {g : TG} {G : List Sl} {d : D} {G' : List Sl} : CoeFun (TgD K g G d G') fun _ => ∀ {H0 F0 F H : Hp} {σ : L2.St} {v : V}, En K H0 F0 F H σ G → Rp K F v d → ∀ Q : L2.St → Hp → Prop, (∀ σ', En K H0 F0 F H σ' G' → Q σ' H) → g v σ H Q := ⟨fun h => h.run⟩
structure TgsD (K : PySem.W.Frag) (g : TGs) (G : List Sl) (ds : List D) (G' : List Sl) : Prop where
  run : ∀ {H0 F0 F H : Hp} {σ : L2.St} {vs : List V}, En K H0 F0 F H σ G → RpA K F vs ds → ∀ Q : L2.St → Hp → Prop, (∀ σ', En K H0 F0 F H σ' G' → Q σ' H) → g vs σ H Q
instance {K : PySem.W.Frag} {g : TGs} {G : List Sl} {ds : List D} {G' : List Sl} : CoeFun (TgsD K g G ds G') fun _ => ∀ {H0 F0 F H : Hp} {σ : L2.St} {vs : List V}, En K H0 F0 F H σ G → RpA K F vs ds → ∀ Q : L2.St → Hp → Prop, (∀ σ', En K H0 F0 F H σ' G' → Q σ' H) → g vs σ H Q := ⟨fun h => h.run⟩
section
variable {K : PySem.W.Frag} {G G1 G2 : List Sl} {ta tb te tx : TE} {t u : TT} {tu tw tz : TS} {a b c d : D} {o : Out} {g : TG} {gs : TGs}
theorem Post.weak {H0 F0 F F1 : Hp} {E : Ends} (h : Post K H0 F0 F o E) (f : Ex F F1) : Post K H0 F0 F1 o E := by
  cases o with
  | nx G => exact fun σ F' H' e x => h σ F' H' e (f.trans x)
  | bk G => exact fun σ F' H' e x => h σ F' H' e (f.trans x)
  | ct G => exact fun σ F' H' e x => h σ F' H' e (f.trans x)
  | rt d => exact h
  | ro l => exact h
  | ro2 l m => exact h
  | ex C X => exact h
theorem g_name {i : Nat} : TgD K (gName i) G d (G.set i (.dat d)) := .mk fun {H0 F0 F H σ v} E r Q q => q _ (E.setD r i)
theorem gs_nil : TgsD K gNil G [] G := .mk fun {H0 F0 F H σ vs} E r Q q => by
  cases r
  exact ⟨rfl, q σ E⟩
theorem gs_cons {ds : List D} (h1 : TgD K g G d G1) (h2 : TgsD K gs G1 ds G2) : TgsD K (gCons g gs) G (d :: ds) G2 := .mk fun {H0 F0 F H σ vs} E r Q q => by
  cases r with
  | cons r1 r2 => exact ⟨_, _, rfl, h1 E r1 _ fun σ1 E1 => h2 E1 r2 Q q⟩
theorem g_tup {ds : List D} {n : Nat} (h : TgsD K gs G ds G1) (hn : ds.length = n) : TgD K (gTup K n gs) G (.tup ds) G1 := .mk fun {H0 F0 F H σ v} E r Q q => by
  cases r with
  | tup ha rs => exact ⟨_, _, rfl, Or.inl (Or.inl (E.ef _ _ ha)), by rw [rs.length]; exact hn, h E rs Q q⟩
theorem st_asg (h : EvD K te G d) (hg : TgD K g G d G1) : StD K (tAsg te g) G (.nx G1) := .mk fun {H0 F0 F H σ E} En p => h En _ fun v F1 H1 E1 f1 g1 n1 r1 => hg E1 r1 _ fun σ2 E2 => p σ2 F1 H1 E2 f1
theorem st_asgO {i : Nat} {l : List D} (h : EvO K te G l) : StD K (tAsg te (gName i)) G (.nx (G.set i (.own (.lst l)))) := .mk fun {H0 F0 F H σ E} En p => h En _ fun q xs F1 H1 E1 f1 g1 n1 hq hf h1 r1 =>
  p _ F1 H1 (E1.setO hf (ex_none En.e0 hq) h1 (.lst r1) i fun j lj hj _ hs => by
    obtain ⟨p2, xs2, a2, b2, c2, d2, r2⟩ := En.own j lj hj
    rw [a2] at hs
    cases hs
    rw [hq] at d2
    cases d2) f1
theorem st_seq (h1 : StD K tu G (.nx G1)) (h2 : StD K tw G1 o) : StD K (tSeq tu tw) G o := .mk fun {H0 F0 F H σ E} En p => h1.run (E := { E with nx := tw E }) En fun σ1 F1 H1 E1 f1 => h2 E1 (p.weak f1)
theorem st_stop (h1 : StD K tu G o) (ho : ∀ G, o ≠ .nx G) : StD K (tSeq tu tw) G o := .mk fun {H0 F0 F H σ E} En p => h1.run (E := { E with nx := tw E }) En (by
  cases o with
  | nx G => exact absurd rfl (ho G)
  | bk G => exact p
  | ct G => exact p
  | rt d => exact p
  | ro l => exact p
  | ro2 l m => exact p
  | ex C X => exact p)
theorem st_next : StD K tNext G (.nx G) := .mk fun {H0 F0 F H σ E} En p => p σ F H En (Ex.refl F)
theorem st_ret (h : EvD K te G d) : StD K (tRet te) G (.rt d) := .mk fun {H0 F0 F H σ E} En p => h En _ fun v F1 H1 E1 f1 g1 n1 r1 => p v F1 H1 E1.ro r1
theorem st_retO {l : List D} (h : EvO K te G l) : StD K (tRet te) G (.ro l) := .mk fun {H0 F0 F H σ E} En p => h En _ fun q xs F1 H1 E1 f1 g1 n1 hq hf h1 r1 => p q xs F1 H1 E1.ro (ex_none En.e0 hq) hf h1 r1
theorem st_retV {i : Nat} {l : List D} (h : G[i]? = some (.own (.lst l))) : StD K (tRet (tVar i)) G (.ro l) := .mk fun {H0 F0 F H σ E} En p => by
  obtain ⟨q, o, a1, b1, c1, d1, r1⟩ := En.own i _ h
  cases r1 with
  | lst r1 => exact ⟨_, a1, p q _ F H En.ro c1 b1 d1 r1⟩
theorem st_brk : StD K tBreak G (.bk G) := .mk fun {H0 F0 F H σ E} En p => p σ F H En (Ex.refl F)
theorem st_cont : StD K tCont G (.ct G) := .mk fun {H0 F0 F H σ E} En p => p σ F H En (Ex.refl F)
theorem st_if {x : Bool} (h : EvTt K t G x) (h1 : x = true → StD K tu G o) (h2 : x = false → StD K tw G o) : StD K (tIfS t tu tw) G o := .mk fun {H0 F0 F H σ E} En p => h En _ fun F1 H1 E1 f1 g1 n1 => by
  cases x with
  | true =>
    show tu E σ H1
    exact h1 rfl E1 (p.weak f1)
  | false =>
    show tw E σ H1
    exact h2 rfl E1 (p.weak f1)
theorem st_drop (h : EvD K te G d) : StD K (tDrop te) G (.nx G) := .mk fun {H0 F0 F H σ E} En p => h En _ fun v F1 H1 E1 f1 g1 n1 r1 => p σ F1 H1 E1 f1
theorem st_freeze {i : Nat} {l : Ow} (h : G[i]? = some (.own l)) (hs : StD K tu (G.set i (.dat (datOf l))) o) : StD K tu G o := .mk fun {H0 F0 F H σ E} En p => by
  obtain ⟨F1, f1, E1⟩ := En.freeze h
  exact hs E1 (p.weak f1)
/-- forgetting a slot -/
theorem st_is {o' : Out} (h : StD K tu G o) (e : o = o') : StD K tu G o' := e ▸ h
theorem e_own {i : Nat} {l : List D} (h : G[i]? = some (.own (.lst l))) {H0 F0 F H : Hp} {σ : L2.St} (E : En K H0 F0 F H σ G) {Q : VK} (q : ∀ p xs, σ[i]? = some (some (.ref p)) → H p = some (.lst xs) → F p = none → RpA K F xs l → Q (.ref p) H) : tVar i σ H Q := by
  obtain ⟨p, o, a1, b1, c1, d1, r1⟩ := E.own i _ h
  cases r1 with
  | lst r1 => exact ⟨_, a1, q p _ a1 d1 b1 r1⟩
/-- xs.append(e) -/
theorem st_app {i : Nat} {l : List D} (h : G[i]? = some (.own (.lst l))) (he : EvD K te G d) (hz : l.length < 100000) : StD K (tDrop (tBM K "list" rAppend (tVar i) (tCons te tNil))) G (.nx (G.set i (.own (.lst (l ++ [d]))))) := .mk fun {H0 F0 F H σ E} En p =>
  by
  unfold tDrop tBM
  exact e_own h En fun q xs hq hH hF hr => ⟨Or.inl ⟨rfl, xs, sq_of hH⟩, he En _ fun v F1 H1 E1 f1 g1 n1 r1 => by
    refine ⟨q, xs, v, rfl, rfl, g1 _ _ hH, sz_lt (by rw [hr.length]; exact hz), ?_⟩
    exact p σ F1 _ (E1.mut h hq (.lst ((hr.mono f1).app (.cons r1 .nil)))) f1⟩
/-- xs[j] = e -/
theorem st_setI {i : Nat} {l : List D} {j : Nat} (h : G[i]? = some (.own (.lst l))) (he : EvD K te G d) (hi : EvD K tx G (.int (j : Int))) (hj : j < l.length) : StD K (tAsg te (gSub (tVar i) tx rSetL)) G (.nx (G.set i (.own (.lst (l.set j d))))) := .mk fun {H0 F0 F H σ E} En p =>
  he En _ fun v F1 H1 E1 f1 g1 n1 r1 => e_own h E1 fun q xs hq hH hF hr => hi E1 _ fun w F2 H2 E2 f2 g2 n2 r2 => by
    cases r2
    refine ⟨q, xs, (j : Int), j, rfl, rfl, g2 _ _ hH, ixN_nat (by rw [hr.length]; exact hj), ?_⟩
    exact p σ F2 _ (E2.mut h hq (.lst ((hr.mono f2).set (r1.mono f2) j))) (f1.trans f2)
end
end Cy

set_option Elab.async false
set_option linter.all false
set_option maxRecDepth 100000
set_option maxHeartbeats 2000000
namespace Cy
open PySem L2 Evl

/-! promises over data -/
/-- hands back a value that bears d -/
def spD (K : PySem.W.Frag) (R : List D → D → Prop) : Sp := fun vs H Q _ => ∃ F ds d, Ex F H ∧ RpA K F vs ds ∧ R ds d ∧ ∀ v F' H', Ro H F F' H' → Rp K F' v d → Q v H'
/-- hands back a new list -/
def spO (K : PySem.W.Frag) (R : List D → List D → Prop) : Sp := fun vs H Q _ => ∃ F ds l, Ex F H ∧ RpA K F vs ds ∧ R ds l ∧ ∀ p xs F' H', Ro H F F' H' → H p = none → F' p = none → H' p = some (.lst xs) → RpA K F' xs l → Q (.ref p) H'
section
variable {K : PySem.W.Frag} {G G1 G2 : List Sl} {ta : TA} {te tx : TE} {t u tt : TT} {tu tw tz : TS} {d : D} {ds l : List D} {o : Out} {g : TG}
theorem Ro.nw {H0 F0 F' H' : Hp} (r : Ro H0 F0 F' H') : Nw F0 F' H0 := r.nf
theorem e_call {R : List D → D → Prop} {E : XK} (h : EvS K ta G ds) (hR : R ds d) : EvD K (tCall (spD K R) [] E ta) G d := .mk fun {H0 F0 F H σ} En Q q =>
  h En _ fun vs F1 H1 E1 f1 g1 n1 r1 => by
    refine ⟨F1, ds, d, E1.ef, by rw [List.append_nil]; exact r1, hR, fun v F2 H2 ro r2 => ?_⟩
    exact q v F2 H2 (E1.grow ro.e1 ro.e0 ro.ef ro.nf) (f1.trans ro.e1) (g1.trans ro.e0) (n1.trans ro.nf g1) r2
theorem o_call {R : List D → List D → Prop} {E : XK} (h : EvS K ta G ds) (hR : R ds l) : EvO K (tCall (spO K R) [] E ta) G l := .mk fun {H0 F0 F H σ} En Q q =>
  h En _ fun vs F1 H1 E1 f1 g1 n1 r1 => by
    refine ⟨F1, ds, l, E1.ef, by rw [List.append_nil]; exact r1, hR, fun p xs F2 H2 ro hp hf hh r2 => ?_⟩
    exact q p xs F2 H2 (E1.grow ro.e1 ro.e0 ro.ef ro.nf) (f1.trans ro.e1) (g1.trans ro.e0) (n1.trans ro.nf g1) (ex_none g1 hp) hf hh r2
/-- the slots at a def's entry -/
def args (n : Nat) (ds : List D) : List Sl := ds.map Sl.dat ++ List.replicate (n - ds.length) Sl.no
theorem start_en {N : List Str} {vs : List V} {F H : Hp} (e : Ex F H) (r : RpA K F vs ds) (hn : ds.length ≤ N.length) : En K H F F H (start N vs) (args N.length ds) := by
  have hs : start N vs = vs.map some ++ List.replicate (N.length - vs.length) none := by
    first | rfl | (unfold start; rfl)
  have hl := r.length
  rw [hs, hl]
  unfold args
  refine ⟨fun i d h => ?_, fun i l h => ?_, fun i j li lj p hij h1 h2 h3 => ?_, Ex.refl H, e, Ex.refl F, fun a o h => .inl h, ?_⟩
  · by_cases hi : i < ds.length
    · rw [List.getElem?_append_left (by rw [List.length_map]; exact hi), List.getElem?_map] at h
      cases q : ds[i]? with
      | none =>
        rw [q] at h
        cases h
      | some e' =>
        rw [q] at h
        cases h
        obtain ⟨v, h1, h2⟩ := r.get q
        refine ⟨v, ?_, h2⟩
        rw [List.getElem?_append_left (by rw [List.length_map, hl]; exact hi), List.getElem?_map, h1]
        rfl
    · rw [List.getElem?_append_right (by rw [List.length_map]; omega), List.length_map] at h
      have := List.mem_of_getElem? h
      rw [List.mem_replicate] at this
      cases this.2
  · by_cases hi : i < ds.length
    · rw [List.getElem?_append_left (by rw [List.length_map]; exact hi), List.getElem?_map] at h
      cases q : ds[i]? with
      | none =>
        rw [q] at h
        cases h
      | some e' =>
        rw [q] at h
        cases h
    · rw [List.getElem?_append_right (by rw [List.length_map]; omega), List.length_map] at h
      have := List.mem_of_getElem? h
      rw [List.mem_replicate] at this
      cases this.2
  · by_cases hi : i < ds.length
    · rw [List.getElem?_append_left (by rw [List.length_map]; exact hi), List.getElem?_map] at h1
      cases q : ds[i]? with
      | none =>
        rw [q] at h1
        cases h1
      | some e' =>
        rw [q] at h1
        cases h1
    · rw [List.getElem?_append_right (by rw [List.length_map]; omega), List.length_map] at h1
      have := List.mem_of_getElem? h1
      rw [List.mem_replicate] at this
      cases this.2
  · rw [List.length_append, List.length_append, List.length_map, List.length_map, List.length_replicate, List.length_replicate, hl]
/-- a def's body, read from its arguments' data -/
theorem body_D {N : List Str} {R : List D → D → Prop} {vs : List V} {H : Hp} {Q : VK} {E : XK} {t : TS} (h : spD K R vs H Q E) (hn : ∀ ds d, R ds d → ds.length ≤ N.length)
    (hb : ∀ ds d, R ds d → StD K t (args N.length ds) (.rt d)) : t { nx := fun _ H' => Q .non H', rt := Q } (start N vs) H := by
  obtain ⟨F, ds, d, e, r, hR, q⟩ := h
  exact hb ds d hR (start_en e r (hn ds d hR)) fun v F' H' ro r' => q v F' H' ro r'
/-- .. that ends without a return -/
theorem body_N {N : List Str} {R : List D → D → Prop} {vs : List V} {H : Hp} {Q : VK} {E : XK} {t : TS} (h : spD K R vs H Q E) (hn : ∀ ds d, R ds d → ds.length ≤ N.length)
    (hb : ∀ ds d, R ds d → d = .non ∧ ∃ G, StD K t (args N.length ds) (.nx G)) : t { nx := fun _ H' => Q .non H', rt := Q } (start N vs) H := by
  obtain ⟨F, ds, d, e, r, hR, q⟩ := h
  obtain ⟨hd, G, hs⟩ := hb ds d hR
  subst hd
  exact hs (start_en e r (hn ds _ hR)) fun σ F' H' E' f' => q .non F' H' E'.ro .non
theorem body_O {N : List Str} {R : List D → List D → Prop} {vs : List V} {H : Hp} {Q : VK} {E : XK} {t : TS} (h : spO K R vs H Q E) (hn : ∀ ds d, R ds d → ds.length ≤ N.length)
    (hb : ∀ ds d, R ds d → StD K t (args N.length ds) (.ro d)) : t { nx := fun _ H' => Q .non H', rt := Q } (start N vs) H := by
  obtain ⟨F, ds, d, e, r, hR, q⟩ := h
  exact hb ds d hR (start_en e r (hn ds d hR)) fun p xs F' H' ro h0 hf hh r' => q p xs F' H' ro h0 hf hh r'

/-! walks -/
/-- the walk J gives these, one by one -/
structure WkD (K : PySem.W.Frag) (F : Hp) (J : It) (items : List D) : Prop where
  ex : ∃ Gp Y, Walk J items.length Gp Y ∧ (∀ H, Ex F H → Gp H) ∧ ∀ i H x H' F1, Ex F F1 → Ex F1 H → Y i H x H' → ∃ F2 d, Ex F1 F2 ∧ Ex H H' ∧ Ex F2 H' ∧ Nw F1 F2 H ∧ items[i]? = some d ∧ Rp K F2 x d
structure ItD (K : PySem.W.Frag) (wi : TI) (G : List Sl) (items : List D) : Prop where
  run : ∀ {H0 F0 F H : Hp} {σ : L2.St}, En K H0 F0 F H σ G → ∀ R : It → Hp → Prop, (∀ J F' H', En K H0 F0 F' H' σ G → Ex F F' → Ex H H' → Nw F F' H → WkD K F' J items → R J H') → wi σ H R
instance {K : PySem.W.Frag} {wi : TI} {G : List Sl} {items : List D} : CoeFun (ItD K wi G items) fun _ => ∀ {H0 F0 F H : Hp} {σ : L2.St}, En K H0 F0 F H σ G → ∀ R : It → Hp → Prop, (∀ J F' H', En K H0 F0 F' H' σ G → Ex F F' → Ex H H' → Nw F F' H → WkD K F' J items → R J H') → wi σ H R := ⟨fun h => h.run⟩
theorem wk_same {F : Hp} {J : It} {items : List D} {xs : List V} {Gp : Hp → Prop} {Y : Nat → Hp → V → Hp → Prop} (w : Walk J items.length Gp Y) (hg : ∀ H, Ex F H → Gp H) (r : RpA K F xs items) (hy : ∀ i H x H', Y i H x H' → H' = H ∧ xs[i]? = some x) : WkD K F J items := by
  refine ⟨Gp, Y, w, hg, fun i H x H' F1 e1 e2 y => ?_⟩
  obtain ⟨rfl, hx⟩ := hy i H x H' y
  have hi : i < items.length := by
    rw [← r.length]
    exact (List.getElem?_eq_some_iff.mp hx).1
  obtain ⟨v, h1, h2⟩ := r.get (List.getElem?_eq_getElem hi)
  rw [hx] at h1
  cases h1
  exact ⟨F1, items[i], Ex.refl _, Ex.refl _, e2, Nw.refl _ _, List.getElem?_eq_getElem hi, h2.mono e1⟩
theorem it_list (h : EvD K te G (.lst l)) : ItD K (iList K te) G l := .mk fun {H0 F0 F H σ} En R q => h En _ fun v F1 H1 E1 f1 g1 n1 r1 => by
  cases r1 with
  | lst ha rs =>
    refine ⟨_, rfl, ⟨_, sq_of (E1.ef _ _ ha)⟩, q _ F1 H1 E1 f1 g1 n1 ?_⟩
    refine wk_same (xs := _) (by rw [← rs.length]; exact walk_list) (fun H e => sq_of (e _ _ ha)) rs fun i H x H' y => y
theorem it_scr {ns : List Int} (h : EvD K te G (.scr ns)) : ItD K (iList K te) G (ns.map D.int) := .mk fun {H0 F0 F H σ} En R q => h En _ fun v F1 H1 E1 f1 g1 n1 r1 => by
  cases r1 with
  | scr hs =>
    refine ⟨_, rfl, ⟨_, ex_l E1.ef hs⟩, q _ F1 H1 E1 f1 g1 n1 ?_⟩
    have hl : (ns.map D.int).length = (ns.map V.int).length := by rw [List.length_map, List.length_map]
    exact wk_same (xs := ns.map V.int) (by rw [hl]; exact walk_list) (fun H e => ex_l e hs) (RpA.ofInts ns) fun i H x H' y => y
theorem it_tup (h : EvD K te G (.tup l)) : ItD K (iTup K te) G l := .mk fun {H0 F0 F H σ} En R q => h En _ fun v F1 H1 E1 f1 g1 n1 r1 => by
  cases r1 with
  | tup ha rs =>
    refine ⟨_, rfl, ⟨_, st_of (E1.ef _ _ ha)⟩, q _ F1 H1 E1 f1 g1 n1 ?_⟩
    refine wk_same (xs := _) (by rw [← rs.length]; exact walk_tup) (fun H e => st_of (e _ _ ha)) rs fun i H x H' y => y
theorem wk_fn {F : Hp} {J : It} {n : Nat} {f : Nat → Int} {Y : Nat → Hp → V → Hp → Prop} (w : Walk J n (fun _ => True) Y) (hy : ∀ i H x H', Y i H x H' → i < n ∧ H' = H ∧ x = .int (f i)) : WkD K F J ((List.range n).map fun i => D.int (f i)) := by
  have hl : ((List.range n).map fun i => D.int (f i)).length = n := by rw [List.length_map, List.length_range]
  refine ⟨_, Y, by rw [hl]; exact w, fun _ _ => trivial, fun i H x H' F1 e1 e2 y => ?_⟩
  obtain ⟨hi, rfl, rfl⟩ := hy i H x H' y
  refine ⟨F1, .int (f i), Ex.refl _, Ex.refl _, e2, Nw.refl _ _, ?_, .int _⟩
  rw [List.getElem?_map, List.getElem?_range hi]
  rfl
/-- ints lo, lo + 1, .. -/
def rngD (lo : Int) (n : Nat) : List D := (List.range n).map fun (i : Nat) => D.int (lo + (i : Int))
theorem walk_rng {lo : Int} {n : Nat} {F : Hp} : WkD K F (Itr lo n) (rngD lo n) :=
  wk_fn (f := fun (i : Nat) => lo + (i : Int)) (w := (⟨fun _ _ hi _ => hi, fun _ _ => Nat.le_refl _, fun i H x H' hi _ y => ⟨hi, y.1, y.2⟩⟩ : Walk (Itr lo n) n (fun _ => True) fun i H x H' => i < n ∧ H' = H ∧ x = .int (lo + (i : Int)))) fun i H x H' y => y
theorem it_rng1 {n : Int} (h : EvS K ta G [.int n]) (hn : -(2 ^ 62) ≤ n ∧ n < 2 ^ 62) : ItD K (iRng1 ta) G (rngD 0 n.toNat) := .mk fun {H0 F0 F H σ} En R q => h En _ fun vs F1 H1 E1 f1 g1 n1 r1 => by
  cases r1 with
  | cons a b =>
    cases b
    cases a
    exact ⟨n, rfl, hn.1, hn.2, q _ F1 H1 E1 f1 g1 n1 walk_rng⟩
theorem it_rng2 {lo n : Int} (h : EvS K ta G [.int lo, .int n]) (hn : -(2 ^ 62) ≤ lo ∧ lo < 2 ^ 62 ∧ -(2 ^ 62) ≤ n ∧ n < 2 ^ 62) : ItD K (iRng2 ta) G (rngD lo (n - lo).toNat) := .mk fun {H0 F0 F H σ} En R q => h En _ fun vs F1 H1 E1 f1 g1 n1 r1 => by
  cases r1 with
  | cons a b =>
    cases b with
    | cons b c =>
      cases c
      cases a
      cases b
      exact ⟨lo, n, rfl, hn, q _ F1 H1 E1 f1 g1 n1 walk_rng⟩
/-- the signs of a text -/
def signs (x : Str) : List D := x.cps.toList.map fun c => D.str ⟨#[c]⟩
theorem it_str {x : Str} (h : EvD K te G (.str x)) : ItD K (iStr te) G (signs x) := .mk fun {H0 F0 F H σ} En R q => h En _ fun v F1 H1 E1 f1 g1 n1 r1 => by
  cases r1
  refine ⟨x, rfl, q _ F1 H1 E1 f1 g1 n1 ?_⟩
  have hl : (signs x).length = x.cps.size := by
    unfold signs
    rw [List.length_map]
    rfl
  refine ⟨_, _, by rw [hl]; exact walk_str, fun _ _ => trivial, fun i H x' H' F1 e1 e2 y => ?_⟩
  obtain ⟨rfl, c, hc, rfl⟩ := y
  refine ⟨F1, _, Ex.refl _, Ex.refl _, e2, Nw.refl _ _, ?_, .str _⟩
  unfold signs
  rw [List.getElem?_map, Array.getElem?_toList, hc]
  rfl
/-- pairs of a place and an item -/
def enumD (l : List D) : List D := (List.range l.length).map fun (i : Nat) => D.tup [.int (i : Int), l.getD i .non]
theorem it_enum (h : EvS K ta G [.lst l]) : ItD K (iEnum K ta) G (enumD l) := .mk fun {H0 F0 F H σ} En R q => h En _ fun vs F1 H1 E1 f1 g1 n1 r1 => by
  cases r1 with
  | cons a b =>
    cases b
    cases a with
    | lst ha rs =>
      refine ⟨_, _, rfl, sq_of (E1.ef _ _ ha), q _ F1 H1 E1 f1 g1 n1 ?_⟩
      have hl : (enumD l).length = l.length := by
        unfold enumD
        rw [List.length_map, List.length_range]
      refine ⟨_, _, by rw [hl, ← rs.length]; exact walk_enum, fun H e => sq_of (e _ _ ha), fun i H x' H' F1 e1 e2 y => ?_⟩
      obtain ⟨T, x, y, rfl, hT, rfl, hx, hy⟩ := y
      cases hx
      dsimp only at hy
      have hi : i < l.length := by
        rw [← rs.length]
        exact (List.getElem?_eq_some_iff.mp hy).1
      obtain ⟨v, h1, h2⟩ := rs.get (List.getElem?_eq_getElem hi)
      rw [hy] at h1
      cases h1
      have ef : Ex F1 (upd F1 T (.tup [.int (i : Int), y])) := Ex.new (ex_none e2 hT)
      refine ⟨upd F1 T (.tup [.int (i : Int), y]), .tup [.int (i : Int), l[i]], ef, Ex.new hT, ex_upd_both e2, nw_upd hT (Nw.refl _ _), ?_, .tup upd_same (.cons (.int _) (.cons (h2.mono (e1.trans ef)) .nil))⟩
      unfold enumD
      rw [List.getElem?_map, List.getElem?_range hi]
      show some (D.tup [.int (i : Int), l.getD i .non]) = _
      rw [List.getD_eq_getElem?_getD, List.getElem?_eq_getElem hi]
      rfl
/-- pairs of two lists -/
def zipD (l m : List D) : List D := (List.range (min l.length m.length)).map fun i => D.tup [l.getD i .non, m.getD i .non]
theorem it_zip {m : List D} (h : EvS K ta G [.lst l, .lst m]) : ItD K (iZip K ta) G (zipD l m) := .mk fun {H0 F0 F H σ} En R q => h En _ fun vs F1 H1 E1 f1 g1 n1 r1 => by
  cases r1 with
  | cons a b =>
    cases b with
    | cons b c =>
      cases c
      cases a with
      | lst ha rs =>
        cases b with
        | lst hb rt =>
          refine ⟨_, _, _, _, rfl, sq_of (E1.ef _ _ ha), sq_of (E1.ef _ _ hb), q _ F1 H1 E1 f1 g1 n1 ?_⟩
          have hl : (zipD l m).length = min l.length m.length := by
            unfold zipD
            rw [List.length_map, List.length_range]
          refine ⟨_, _, walk_zip (by rw [hl, rs.length, rt.length]), fun H e => ⟨sq_of (e _ _ ha), sq_of (e _ _ hb)⟩, fun i H x' H' F1 e1 e2 y => ?_⟩
          obtain ⟨T, x, y, rfl, hT, rfl, hx, hy⟩ := y
          dsimp only at hx hy
          have hi : i < l.length := by
            rw [← rs.length]
            exact (List.getElem?_eq_some_iff.mp hx).1
          have hj : i < m.length := by
            rw [← rt.length]
            exact (List.getElem?_eq_some_iff.mp hy).1
          obtain ⟨v, h1, h2⟩ := rs.get (List.getElem?_eq_getElem hi)
          rw [hx] at h1
          cases h1
          obtain ⟨w, h3, h4⟩ := rt.get (List.getElem?_eq_getElem hj)
          rw [hy] at h3
          cases h3
          have ef : Ex F1 (upd F1 T (.tup [x, y])) := Ex.new (ex_none e2 hT)
          refine ⟨upd F1 T (.tup [x, y]), .tup [l[i], m[i]], ef, Ex.new hT, ex_upd_both e2, nw_upd hT (Nw.refl _ _), ?_, .tup upd_same (.cons (h2.mono (e1.trans ef)) (.cons (h4.mono (e1.trans ef)) .nil))⟩
          unfold zipD
          rw [List.getElem?_map, List.getElem?_range (by omega)]
          show some (D.tup [l.getD i .non, m.getD i .non]) = _
          rw [List.getD_eq_getElem?_getD, List.getElem?_eq_getElem hi, List.getD_eq_getElem?_getD, List.getElem?_eq_getElem hj]
          rfl
/-- ints from above: lo + n - 1, .., lo -/
def downD (lo : Int) (n : Nat) : List D := (List.range n).map fun (i : Nat) => D.int (lo + (n : Int) - 1 - (i : Int))
/-- a range as a value -/
structure RgD (K : PySem.W.Frag) (tr : L2.St → Hp → (Int → Int → Hp → Prop) → Prop) (G : List Sl) (a b : Int) : Prop where
  run : ∀ {H0 F0 F H : Hp} {σ : L2.St}, En K H0 F0 F H σ G → ∀ Q : Int → Int → Hp → Prop, (∀ F' H', En K H0 F0 F' H' σ G → Ex F F' → Ex H H' → Nw F F' H → Q a b H') → tr σ H Q
instance {K : PySem.W.Frag} {tr : L2.St → Hp → (Int → Int → Hp → Prop) → Prop} {G : List Sl} {a b : Int} : CoeFun (RgD K tr G a b) fun _ => ∀ {H0 F0 F H : Hp} {σ : L2.St}, En K H0 F0 F H σ G → ∀ Q : Int → Int → Hp → Prop, (∀ F' H', En K H0 F0 F' H' σ G → Ex F F' → Ex H H' → Nw F F' H → Q a b H') → tr σ H Q := ⟨fun h => h.run⟩
theorem it_revR {tr : L2.St → Hp → (Int → Int → Hp → Prop) → Prop} {a b : Int} (h : RgD K tr G a b) (hn : -(2 ^ 62) ≤ a ∧ a < 2 ^ 62 ∧ -(2 ^ 62) ≤ b ∧ b < 2 ^ 62) : ItD K (iRevR tr) G (downD a (b - a).toNat) := .mk fun {H0 F0 F H σ} En R q =>
  h En _ fun F1 H1 E1 f1 g1 n1 => ⟨hn.1, hn.2.1, hn.2.2.1, hn.2.2.2, q _ F1 H1 E1 f1 g1 n1 (by
    refine wk_fn (f := fun (i : Nat) => a + (((b - a).toNat : Nat) : Int) - 1 - (i : Int)) (w := (⟨fun _ _ hi _ => hi, fun _ _ => Nat.le_refl _, fun i H x H' hi _ y => ⟨hi, y.1, ?_⟩⟩ : Walk (Itc (a + (((b - a).toNat : Nat) : Int) - 1) (-1) (b - a).toNat) (b - a).toNat (fun _ => True) fun i H x H' => i < (b - a).toNat ∧ H' = H ∧ x = .int (a + (((b - a).toNat : Nat) : Int) - 1 - (i : Int)))) fun i H x H' y => y
    rw [y.2]
    congr 1
    omega)⟩

/-! what is forgotten -/
inductive Wk : List Sl → List Sl → Prop
  | nil : Wk [] []
  | keep {a : Sl} {l m : List Sl} : Wk l m → Wk (a :: l) (a :: m)
  | drop {a : Sl} {l m : List Sl} : Wk l m → Wk (a :: l) (.no :: m)
theorem Wk.refl : ∀ l : List Sl, Wk l l
  | [] => .nil
  | _ :: l => .keep (Wk.refl l)
theorem Wk.get : ∀ {l m : List Sl} {i : Nat} {x : Sl}, Wk l m → m[i]? = some x → x = .no ∨ l[i]? = some x
  | _, _, i, x, .nil, h => by simp at h
  | _, _, 0, x, .keep _, h => .inr (by simpa using h)
  | _, _, 0, x, .drop _, h => .inl (by simp at h; exact h.symm)
  | _, _, i + 1, x, .keep w, h => by
    have := Wk.get (i := i) (x := x) w (by simpa using h)
    simpa using this
  | _, _, i + 1, x, .drop w, h => by
    have := Wk.get (i := i) (x := x) w (by simpa using h)
    simpa using this
theorem Wk.length : ∀ {l m : List Sl}, Wk l m → l.length = m.length
  | _, _, .nil => rfl
  | _, _, .keep w => by rw [List.length_cons, List.length_cons, Wk.length w]
  | _, _, .drop w => by rw [List.length_cons, List.length_cons, Wk.length w]
theorem En.weak {H0 F0 F H : Hp} {σ : L2.St} {G' : List Sl} (E : Cy.En K H0 F0 F H σ G) (w : Wk G G') : Cy.En K H0 F0 F H σ G' where
  dat := fun i d h => by
    rcases w.get h with z | z
    · cases z
    · exact E.dat i d z
  own := fun i d h => by
    rcases w.get h with z | z
    · cases z
    · exact E.own i d z
  dis := fun i j li lj p hij h1 h2 h3 => by
    rcases w.get h1 with z | z
    · cases z
    · rcases w.get h2 with y | y
      · cases y
      · exact E.dis i j li lj p hij z y h3
  e0 := E.e0
  ef := E.ef
  e1 := E.e1
  nf := E.nf
  len := by rw [E.len, w.length]
theorem st_weak (h : StD K tu G (.nx G1)) (w : Wk G1 G2) : StD K tu G (.nx G2) := .mk fun {H0 F0 F H σ E} En p => h En fun σ F' H' E' f => p σ F' H' (E'.weak w) f
theorem st_from (h : StD K tu G1 o) (w : Wk G G1) : StD K tu G o := .mk fun {H0 F0 F H σ E} En p => h (En.weak w) p

/-! loops -/
def Goes (s : Out) (C : List Sl) : Prop := ∃ C', (s = .nx C' ∨ s = .ct C') ∧ Wk C' C
def Ends' (s o : Out) : Prop := (∃ d, s = .rt d ∧ o = .rt d) ∨ (∃ l, s = .ro l ∧ o = .ro l) ∨ (∃ l m, s = .ro2 l m ∧ o = .ro2 l m) ∨ (∃ C X, s = .ex C X ∧ o = .ex C X) ∨ ∃ C, s = .bk C ∧ o = .nx C
theorem st_for {wi : TI} {items : List D} (hi : ItD K wi G items) (C : Nat → List Sl) (h0 : C 0 = G) (T : Nat → List Sl) (ht : ∀ i d, items[i]? = some d → TgD K g (C i) d (T i)) (S : Nat → Out)
    (hb : ∀ i, i < items.length → (∀ j, j < i → Goes (S j) (C (j + 1))) → StD K tu (T i) (S i)) (hS : ∀ i, i < items.length → Goes (S i) (C (i + 1)) ∨ Ends' (S i) o)
    (hd : (∀ i, i < items.length → Goes (S i) (C (i + 1))) → o = .nx (C items.length)) : StD K (tFor wi g tu) G o := by
  refine ⟨?_⟩
  intro H0 F0 F H σ E En p
  refine hi En _ fun J F1 H1 E1 f1 g1 n1 wk => ?_
  obtain ⟨Gp, Y, w, hg, hy⟩ := wk.ex
  refine for_it w (fun i σ H => ∃ F', Cy.En K H0 F0 F' H σ (C i) ∧ Ex F1 F' ∧ ∀ j, j < i → Goes (S j) (C (j + 1))) ⟨F1, by rw [h0]; exact E1, Ex.refl _, fun j hj => absurd hj (Nat.not_lt_zero _)⟩
    (fun i σ H _ ⟨F', E', e', _⟩ => hg H (e'.trans E'.ef)) ?_ ?_
  · rintro i x σ2 H2 H3 hlt ⟨F', E', e', hp⟩ y
    obtain ⟨F2, d, k1, k2, k3, k4, hd2, r2⟩ := hy i H2 x H3 F' e' E'.ef y
    have E3 : Cy.En K H0 F0 F2 H3 σ2 (C i) := E'.grow k1 k2 k3 k4
    refine ht i d hd2 E3 r2 _ fun σ4 E4 => ?_
    refine hb i hlt hp E4 ?_
    rcases hS i hlt with hs | hs
    · have hnext : ∀ (σ : L2.St) (F'' H'' : Hp), Cy.En K H0 F0 F'' H'' σ (C (i + 1)) → Ex F2 F'' → ∃ F', Cy.En K H0 F0 F' H'' σ (C (i + 1)) ∧ Ex F1 F' ∧ ∀ j, j < i + 1 → Goes (S j) (C (j + 1)) := fun σ F'' H'' E'' f'' =>
        ⟨F'', E'', (e'.trans k1).trans f'', fun j hj => by
          by_cases hji : j < i
          · exact hp j hji
          · have ej : j = i := by omega
            rw [ej]
            exact hs⟩
      obtain ⟨C', hs | hs, hw⟩ := hs
      · rw [hs]
        exact fun σ F'' H'' E'' f'' => hnext σ F'' H'' (E''.weak hw) f''
      · rw [hs]
        exact fun σ F'' H'' E'' f'' => hnext σ F'' H'' (E''.weak hw) f''
    · rcases hs with ⟨d', hs, ho⟩ | ⟨l', hs, ho⟩ | ⟨l', m', hs, ho⟩ | ⟨C', X', hs, ho⟩ | ⟨C', hs, ho⟩
      · rw [hs]
        rw [ho] at p
        exact p
      · rw [hs]
        rw [ho] at p
        exact p
      · rw [hs]
        rw [ho] at p
        exact p
      · rw [hs]
        rw [ho] at p
        exact p
      · rw [hs]
        rw [ho] at p
        exact fun σ F'' H'' E'' f'' => p σ F'' H'' E'' ((((f1.trans e').trans k1).trans f''))
  · rintro σ2 H2 ⟨F', E', e', hp⟩
    have ho := hd hp
    rw [ho] at p
    exact p σ2 F' H2 E' (f1.trans e')

/-! comprehensions -/
def wipeG (G : List Sl) : List Nat → List Sl
  | [] => G
  | v :: vs => (wipeG G vs).set v .no
theorem En.setN {H0 F0 F H : Hp} {σ : L2.St} (E : Cy.En K H0 F0 F H σ G) (i : Nat) : Cy.En K H0 F0 F H (σ.set i none) (G.set i .no) where
  dat := fun j e h => by
    by_cases q : i = j
    · subst q
      by_cases hl : i < G.length
      · rw [List.getElem?_set_self hl] at h
        cases h
      · rw [List.getElem?_eq_none (by rw [List.length_set]; omega)] at h
        cases h
    · rw [List.getElem?_set_ne q] at h ⊢
      exact E.dat j e h
  own := fun j l' h => by
    by_cases q : i = j
    · subst q
      by_cases hl : i < G.length
      · rw [List.getElem?_set_self hl] at h
        cases h
      · rw [List.getElem?_eq_none (by rw [List.length_set]; omega)] at h
        cases h
    · rw [List.getElem?_set_ne q] at h ⊢
      exact E.own j l' h
  dis := fun a b la lb p hab h1 h2 h3 => by
    have na : i ≠ a := fun q => by
      subst q
      by_cases hl : i < G.length
      · rw [List.getElem?_set_self hl] at h1
        cases h1
      · rw [List.getElem?_eq_none (by rw [List.length_set]; omega)] at h1
        cases h1
    have nb : i ≠ b := fun q => by
      subst q
      by_cases hl : i < G.length
      · rw [List.getElem?_set_self hl] at h2
        cases h2
      · rw [List.getElem?_eq_none (by rw [List.length_set]; omega)] at h2
        cases h2
    rw [List.getElem?_set_ne na] at h1 h3
    rw [List.getElem?_set_ne nb] at h2 ⊢
    exact E.dis a b la lb p hab h1 h2 h3
  e0 := E.e0
  ef := E.ef
  e1 := E.e1
  nf := E.nf
  len := by rw [List.length_set, List.length_set, E.len]
theorem En.wipe {H0 F0 F H : Hp} {σ : L2.St} (E : Cy.En K H0 F0 F H σ G) : ∀ vs : List Nat, Cy.En K H0 F0 F H (L2.wipe σ vs) (wipeG G vs)
  | [] => E
  | v :: vs => (En.wipe E vs).setN v
/-- a target stores into these slots alone -/
def Keeps (g : TG) (vs : List Nat) : Prop := ∀ (x : V) (σ : L2.St) (H : Hp) (Q : L2.St → Hp → Prop), g x (L2.wipe σ vs) H Q → g x (L2.wipe σ vs) H fun σ2 H2 => L2.wipe σ2 vs = L2.wipe σ vs ∧ Q σ2 H2
theorem keeps1 {j : Nat} : Keeps (gName j) [j] := fun x σ H Q h => ⟨by show ((σ.set j none).set j (some x)).set j none = σ.set j none; rw [List.set_set, List.set_set], h⟩
theorem keeps2 {n i j : Nat} (hij : i ≠ j) : Keeps (gTup K n (gCons (gName i) (gCons (gName j) gNil))) [i, j] := fun x σ H Q h => by
  obtain ⟨a, xs, rfl, hs, hl, v, r, rfl, w, r', rfl, hr, q⟩ := h
  refine ⟨a, _, rfl, hs, hl, v, _, rfl, w, _, rfl, hr, ?_, q⟩
  show (((((σ.set j none).set i none).set i (some v)).set j (some w)).set j none).set i none = (σ.set j none).set i none
  rw [List.set_set, List.set_set, List.set_comm _ _ hij.symm, List.set_set, List.set_comm _ _ hij, List.set_set]
/-- which turns give, and what -/
def lcD (n : Nat) (f : Nat → Bool) (v : Nat → D) : List D := ((List.range n).filter f).map v
theorem lcD_yes {n : Nat} {f : Nat → Bool} {v : Nat → D} (h : f n = true) : lcD (n + 1) f v = lcD n f v ++ [v n] := by
  unfold lcD
  rw [List.range_succ, List.filter_append, List.map_append, List.filter_cons, if_pos h] <;> rfl
theorem lcD_no {n : Nat} {f : Nat → Bool} {v : Nat → D} (h : f n = false) : lcD (n + 1) f v = lcD n f v := by
  unfold lcD
  rw [List.range_succ, List.filter_append, List.map_append, List.filter_cons, if_neg (by rw [h]; decide)]
  show _ ++ [] = _
  rw [List.append_nil]
theorem lcD_len (n : Nat) (f : Nat → Bool) (v : Nat → D) : (lcD n f v).length ≤ n := by
  unfold lcD
  rw [List.length_map]
  have h := List.length_filter_le f (List.range n)
  rw [List.length_range] at h
  exact h
theorem o_lc {wi : TI} {items : List D} {vs : List Nat} (f : Nat → Bool) (v : Nat → D) (T : Nat → List Sl) (hk : Keeps g vs) (hi : ItD K wi G items) (hz : items.length ≤ 40000)
    (ht : ∀ i d, items[i]? = some d → TgD K g (wipeG G vs) d (T i)) (hf : ∀ i, i < items.length → EvTt K tt (T i) (f i)) (hv : ∀ i, i < items.length → f i = true → EvD K te (T i) (v i)) :
    EvO K (tLc wi g tt te vs) G (lcD items.length f v) := by
  refine ⟨?_⟩
  intro H0 F0 F H σ E Q q
  refine hi E _ fun J F1 H1 E1 f1 g1 n1 wk => ?_
  obtain ⟨Gp, Y, w, hg, hy⟩ := wk.ex
  intro Dl hD
  refine lc_it w (fun i H' => ∃ F' acc, Cy.En K H0 F0 F' H' σ G ∧ Ex F1 F' ∧ Ex H1 H' ∧ Nw F1 F' H1 ∧ F' Dl = none ∧ H' Dl = some (.lst acc) ∧ RpA K F' acc (lcD i f v)) ?_ (fun i H' _ ⟨F', acc, E', e', _⟩ => hg H' (e'.trans E'.ef)) ?_ ?_
  · exact ⟨F1, [], E1.grow (Ex.refl _) (Ex.new hD) (E1.ef.trans (Ex.new hD)) (Nw.refl _ _), Ex.refl _, Ex.new hD, Nw.refl _ _, ex_none E1.ef hD, upd_same, .nil⟩
  · rintro i x H2 H3 hlt ⟨F', acc, E', e', gg, nn, hF, hH, hr⟩ y
    obtain ⟨F2, d, k1, k2, k3, k4, hd2, r2⟩ := hy i H2 x H3 F' e' E'.ef y
    have E3 : Cy.En K H0 F0 F2 H3 σ G := E'.grow k1 k2 k3 k4
    refine hk x σ H3 _ ?_
    refine ht i d hd2 (E3.wipe vs) r2 _ fun σ4 E4 => ?_
    have nD : Dl ≠ Dl ∨ True := .inr trivial
    have hH3 : H3 Dl = some (.lst acc) := k2 _ _ hH
    have hF2 : F2 Dl = none := by
      cases z : F2 Dl with
      | none => rfl
      | some o =>
        rcases k4 Dl o z with y | y
        · rw [hF] at y
          cases y
        · rw [hH] at y
          cases y
    have n2 : Nw F1 F2 H1 := nn.trans k4 gg
    refine hf i hlt E4 _ fun F5 H5 E5 f5 g5 n5 => ?_
    have hF5 : F5 Dl = none := by
      cases z : F5 Dl with
      | none => rfl
      | some o =>
        rcases n5 Dl o z with y | y
        · rw [hF2] at y
          cases y
        · rw [hH3] at y
          cases y
    have E5' : Cy.En K H0 F0 F5 H5 σ G := E3.grow f5 g5 E5.ef n5
    have n5' : Nw F1 F5 H1 := n2.trans n5 (gg.trans k2)
    cases hfi : f i with
    | true =>
      show te σ4 H5 _
      refine hv i hlt hfi E5 _ fun v6 F6 H6 E6 f6 g6 n6 r6 => ?_
      have hH6 : H6 Dl = some (.lst acc) := g6 _ _ (g5 _ _ hH3)
      have hF6 : F6 Dl = none := by
        cases z : F6 Dl with
        | none => rfl
        | some o =>
          rcases n6 Dl o z with y | y
          · rw [hF5] at y
            cases y
          · rw [g5 _ _ hH3] at y
            cases y
      have hlen : acc.length ≤ i := by
        rw [hr.length]
        exact lcD_len i f v
      have n6' : Nw F1 F6 H1 := n5'.trans n6 ((gg.trans k2).trans g5)
      refine ⟨acc, hH6, sz_lt (by omega), F6, acc ++ [v6], ?_, ((e'.trans k1).trans f5).trans f6, ?_, n6', hF6, upd_same, ?_⟩
      · have E6' : Cy.En K H0 F0 F6 H6 σ G := E5'.grow f6 g6 E6.ef n6
        refine ⟨E6'.dat, fun j l h => ?_, E6'.dis, fun a o h => ?_, fun a o h => ?_, E6'.e1, E6'.nf, E6'.len⟩
        · obtain ⟨p, xs, a1, b1, c1, d1, r1⟩ := E1.own j l h
          obtain ⟨p2, xs2, a2, b2, c2, d2, r2⟩ := E6'.own j l h
          rw [a1] at a2
          cases a2
          have hne : p ≠ Dl := ne_of_none d1 hD
          exact ⟨p, xs2, a1, b2, c2, by rw [upd_ne hne]; exact d2, r2⟩
        · have hne : a ≠ Dl := fun z => by
            subst z
            rw [ex_none E1.e0 hD] at h
            cases h
          rw [upd_ne hne]
          exact E6'.e0 a o h
        · have hne : a ≠ Dl := fun z => by
            subst z
            rw [hF6] at h
            cases h
          rw [upd_ne hne]
          exact E6'.ef a o h
      · exact Ex.mut (((gg.trans k2).trans g5).trans g6) hD
      · rw [lcD_yes hfi]
        exact (hr.mono ((k1.trans f5).trans f6)).app (.cons r6 .nil)
    | false =>
      refine ⟨F5, acc, E5', (e'.trans k1).trans f5, (gg.trans k2).trans g5, n5', hF5, g5 _ _ hH3, ?_⟩
      rw [lcD_no hfi]
      exact hr.mono (k1.trans f5)
  · rintro H2 ⟨F', acc, E', e', gg, nn, hF, hH, hr⟩
    exact q Dl acc F' H2 E' (f1.trans e') (g1.trans gg) (n1.trans nn g1) (ex_none g1 hD) hF hH hr
end
end Cy
namespace Cy
open PySem L2 Evl
theorem spD_len {K : PySem.W.Frag} {R : List D → D → Prop} {vs : List V} {H : Hp} {Q : VK} {E : XK} {n : Nat} (hR : ∀ ds d, R ds d → ds.length = n) (h : spD K R vs H Q E) : vs.length = n := by
  obtain ⟨F, ds, d, e, r, h1, _⟩ := h
  rw [r.length]
  exact hR ds d h1
theorem spO_len {K : PySem.W.Frag} {R : List D → List D → Prop} {vs : List V} {H : Hp} {Q : VK} {E : XK} {n : Nat} (hR : ∀ ds d, R ds d → ds.length = n) (h : spO K R vs H Q E) : vs.length = n := by
  obtain ⟨F, ds, d, e, r, h1, _⟩ := h
  rw [r.length]
  exact hR ds d h1
/-- the law's end -/
theorem law_endD {K : PySem.W.Frag} {R : List D → D → Prop} {H : Hp} {a : Addr} {ns : List Int} (hS : SqL K H a (ns.map V.int)) (hR : R [.scr ns] (.bl true)) : spD K R [.ref a] H (fun v _ => v = .bl true) fun _ _ _ => False :=
  ⟨H, [.scr ns], .bl true, Ex.refl H, .cons (.scr hS) .nil, hR, fun v F' H' ro r => by
    cases r
    rfl⟩
end Cy

set_option Elab.async false
set_option linter.all false
set_option maxRecDepth 100000
set_option maxHeartbeats 2000000
namespace Cy
open PySem L2 Evl

/-! operators, whatever they are of -/
def orR (r r' : R2) : R2 := fun x y H Q => r x y H Q ∨ r' x y H Q
def orC (r r' : List V → Hp → VK → Prop) : List V → Hp → VK → Prop := fun xs H Q => r xs H Q ∨ r' xs H Q
def rAddS : R2 := fun x y H Q => ∃ i j, x = .str i ∧ y = .str j ∧ i.length + j.length ≤ sizeLine ∧ Q (.str (i ++ j)) H
def rLtS : R2 := fun x y H Q => ∃ i j, x = .str i ∧ y = .str j ∧ Q (.bl (decide (i.cps.toList < j.cps.toList))) H
def rLeS : R2 := fun x y H Q => ∃ i j, x = .str i ∧ y = .str j ∧ Q (.bl (!decide (j.cps.toList < i.cps.toList))) H
def rInC : R2 := fun x y H Q => ∃ (c : Nat) (z : Str), x = .str ⟨#[c]⟩ ∧ y = .str z ∧ Q (.bl (decide (c ∈ z.cps.toList))) H
def rNiC : R2 := fun x y H Q => ∃ (c : Nat) (z : Str), x = .str ⟨#[c]⟩ ∧ y = .str z ∧ Q (.bl (!decide (c ∈ z.cps.toList))) H
def rIsNn : R2 := fun x y H Q => y = .non ∧ Q (.bl (decide (x = .non))) H
def rNiNn : R2 := fun x y H Q => y = .non ∧ Q (.bl (!decide (x = .non))) H
def gAdd (K : PySem.W.Frag) : R2 := orR (rI0 fun i j => .int (i + j)) (orR rAddS rCat)
def gSub : R2 := rI0 fun i j => .int (i - j)
def gMul : R2 := orR (rI CMul fun i j => .int (i * j)) rRep
def gFdv : R2 := rI CDivW fun i j => .int (i / j)
def gMod : R2 := rI (fun _ j => 0 < j) fun i j => .int (i % j)
def gPow : R2 := rI CPow fun i j => .int (i ^ j.toNat)
def gLt : R2 := orR (rI0 fun i j => .bl (decide (i < j))) rLtS
def gLe : R2 := orR (rI0 fun i j => .bl (decide (i ≤ j))) rLeS
def gGt : R2 := rI0 fun i j => .bl (decide (j < i))
def gGe : R2 := rI0 fun i j => .bl (decide (j ≤ i))
def gEq (K : PySem.W.Frag) : R2 := orR rEq (rEqD K)
/-- two lists of unlike lengths -/
def rNeLen (K : PySem.W.Frag) : R2 := fun x y H Q => ∃ a b xs ys, x = .ref a ∧ y = .ref b ∧ SqL K H a xs ∧ SqL K H b ys ∧ xs.length ≠ ys.length ∧ Q (.bl true) H
def gNe (K : PySem.W.Frag) : R2 := orR rNe (orR (rNeD K) (rNeLen K))
def gIn (K : PySem.W.Frag) : R2 := orR rInC (rIn K false)
def gNi (K : PySem.W.Frag) : R2 := orR rNiC (rIn K true)
def gIs : R2 := orR rIsNn rIsB
def gIn2 : R2 := orR rNiNn rNotB
def gIx (K : PySem.W.Frag) : R2 := rIx K
section
variable {X : Cx}
theorem op_gAdd : OpR X (binaryOp .Add) (gAdd X.K) := op_add.or (op_add_str.or op_cat)
theorem op_gSub : OpR X (binaryOp .Sub) gSub := op_sub
theorem op_gMul : OpR X (binaryOp .Mult) gMul := op_mul.or op_rep
theorem op_gFdv : OpR X (binaryOp .FloorDiv) gFdv := op_fdivW
theorem op_gMod : OpR X (binaryOp .Mod) gMod := op_mod
theorem op_gPow : OpR X (binaryOp .Pow) gPow := op_pow
theorem op_gLt : OpR X (compareOp .Lt) gLt := op_lt.or op_lt_str
theorem op_gLe : OpR X (compareOp .LtE) gLe := op_le.or op_le_str
theorem op_gGt : OpR X (compareOp .Gt) gGt := op_gt
theorem op_gGe : OpR X (compareOp .GtE) gGe := op_ge
theorem op_gEq (hu : X.A.units + 64 < cLine) : OpR X (compareOp .Eq) (gEq X.K) := op_eq.or (op_eqD hu)
theorem op_neLen (hu : X.A.units + 64 < cLine) : OpR X (compareOp .NotEq) (rNeLen X.K) := by
  intro pins s σ H x y v u Q I rx ry h
  obtain ⟨a, b, xs, ys, rfl, rfl, h1, h2, hne, q⟩ := h
  cases (show v = Value.ref a from rx)
  cases (show u = Value.ref b from ry)
  obtain ⟨us, r1, p1, _⟩ := I.list h1
  obtain ⟨ws, r2, p2, _⟩ := I.list h2
  have hsz : us.toArray.size ≠ ws.toArray.size := by
    rw [List.size_toArray, List.size_toArray, ← r1.length, ← r2.length]
    exact hne
  exact SeqAt.RcNeAt.lists_lengths p1.isList p2.isList (by simpa using hsz) (by omega) X.prog X.w _ _ ⟨.bl true, H, I, rfl, q⟩
theorem op_gNe (hu : X.A.units + 64 < cLine) : OpR X (compareOp .NotEq) (gNe X.K) := op_ne.or ((op_neD hu).or (op_neLen hu))
theorem op_gIn : OpR X (compareOp .In) (gIn X.K) := op_in_sign.or op_in_seq
theorem op_gNi : OpR X (compareOp .NotIn) (gNi X.K) := op_notIn_sign.or op_notIn_seq
theorem op_gIs : OpR X (compareOp .Is) gIs := op_isN.or op_isBl
theorem op_gIsn : OpR X (compareOp .IsNot) gIn2 := op_notN.or op_notBl
def rMax2 : List V → Hp → VK → Prop := fun xs H Q => ∃ i j, xs = [.int i, .int j] ∧ Q (.int (if j > i then j else i)) H
def rMin2 : List V → Hp → VK → Prop := fun xs H Q => ∃ i j, xs = [.int i, .int j] ∧ Q (.int (if j < i then j else i)) H
def rAbs : List V → Hp → VK → Prop := fun xs H Q => ∃ i, xs = [.int i] ∧ Q (.int (if i < 0 then -i else i)) H
def rLen (K : PySem.W.Frag) : List V → Hp → VK → Prop := fun xs H Q => ∃ x n, xs = [x] ∧ LenV K x H n ∧ Q (.int n) H
def rInt1 : List V → Hp → VK → Prop := fun xs H Q => (∃ i, xs = [.int i] ∧ Q (.int i) H) ∨ ∃ k, xs = [.bl k] ∧ Q (.int (if k then 1 else 0)) H
def rIntS : List V → Hp → VK → Prop := fun xs H Q => ∃ a n, xs = [.str a] ∧ PySem.intText? a = some n ∧ a.length ≤ 640 ∧ Q (.int n) H
def rStrI : List V → Hp → VK → Prop := fun xs H Q => ∃ i, xs = [.int i] ∧ i.natAbs.log2 < 1920 ∧ Q (.str (toString i)) H
def rStrS : List V → Hp → VK → Prop := fun xs H Q => ∃ a, xs = [.str a] ∧ Q (.str a) H
def rListOf (K : PySem.W.Frag) : List V → Hp → VK → Prop := fun xs H Q => ∃ p ys, xs = [.ref p] ∧ (SqL K H p ys ∨ SqT K H p ys) ∧ ∀ l, H l = none → Q (.ref l) (upd H l (.lst ys))
def rReprI : List V → Hp → VK → Prop := fun xs H Q => ∃ i, xs = [.int i] ∧ i.natAbs.log2 < 1920 ∧ Q (.str (toString i)) H
def rReprB : List V → Hp → VK → Prop := fun xs H Q => ∃ b : Bool, xs = [.bl b] ∧ Q (.str (if b then "True" else "False")) H
def rReprS : List V → Hp → VK → Prop := fun xs H Q => ∃ a, xs = [.str a] ∧ (reprText a).length ≤ sizeLine ∧ Q (.str (reprText a)) H
def rReprN : List V → Hp → VK → Prop := fun xs H Q => xs = [.non] ∧ Q (.str "None") H
def gMax (K : PySem.W.Frag) := orC rMax2 (rMax K)
def gMin (K : PySem.W.Frag) := orC rMin2 (rMin K)
def gInt := orC rInt1 rIntS
def gStr := orC rStrI rStrS
def gRepr := orC rReprI (orC rReprB (orC rReprN rReprS))
theorem call_gMax (hc : X.calm = true) : CallR X (.builtin "max") (gMax X.K) := (call_max2 hc).or (cr_max hc)
theorem call_gMin (hc : X.calm = true) : CallR X (.builtin "min") (gMin X.K) := (call_min2 hc).or (cr_min hc)
theorem call_gAbs : CallR X (.builtin "abs") rAbs := call_abs
theorem call_gLen : CallR X (.builtin "len") (rLen X.K) := call_len
theorem call_gInt : CallR X (.type "int") gInt := call_int1.or call_int_str
theorem call_gStr : CallR X (.type "str") gStr := call_str_int.or SkE.call_str_str
theorem call_gList : CallR X (.type "list") (rListOf X.K) := call_list_of
theorem call_reprB : CallR X (.builtin "repr") rReprB := by
  intro pins s σ H xs us Q I r h
  obtain ⟨i, rfl, q⟩ := h
  obtain ⟨u, rfl, rfl⟩ := vals1 r
  exact PySem.P.repr_of_bool ⟨.str _, H, I.tok _, ⟨_, rfl⟩, q⟩
theorem call_reprN : CallR X (.builtin "repr") rReprN := by
  intro pins s σ H xs us Q I r h
  obtain ⟨rfl, q⟩ := h
  obtain ⟨u, rfl, rfl⟩ := vals1 r
  exact PySem.P.repr_of_none ⟨.str _, H, I.tok _, ⟨_, rfl⟩, q⟩
theorem call_reprS : CallR X (.builtin "repr") rReprS := by
  intro pins s σ H xs us Q I r h
  obtain ⟨i, rfl, hz, q⟩ := h
  obtain ⟨u, rfl, t, rfl⟩ := vals1 r
  exact PySem.P.repr_of_str ⟨.str _, H, I.tok _, ⟨_, rfl⟩, q⟩ hz
theorem call_gRepr : CallR X (.builtin "repr") gRepr := SkE.call_repr_int.or (call_reprB.or (call_reprN.or call_reprS))
end
def gSl (K : PySem.W.Frag) : V → Option Int → Option Int → Hp → VK → Prop := fun x lo hi H Q => rSlL K x lo hi H Q ∨ rSlS x lo hi H Q
theorem sl_gSl {X : Cx} : SlR X (gSl X.K) := sl_list.or sl_str

/-! what they give of data -/
def kindD : D → String
  | .non => "NoneType"
  | .bl _ => "bool"
  | .int _ => "int"
  | .str _ => "str"
  | .lst _ => "list"
  | .tup _ => "tuple"
  | .dic _ => "dict"
  | .obj _ _ => "object"
  | .scr _ => "list"
  | .exc _ => "object"
  | .ptr _ => "object"
def noObj : D → Bool
  | .obj _ _ => false
  | .exc _ => false
  | .ptr _ => false
  | _ => true
section
variable {K : PySem.W.Frag} {G : List Sl} {ta tb te : TE} {d : D} {l m : List D}
theorem op2_v {r : R2} {a b c : D} (h : ∀ {F H : Hp} {x y : V}, Ex F H → Rp K F x a → Rp K F y b → ∃ z, Rp K F z c ∧ ∀ Q : VK, Q z H → r x y H Q) : Op2 K r a b c := .mk fun {F H x y} e r1 r2 Q q => by
  obtain ⟨z, h1, h2⟩ := h e r1 r2
  exact h2 Q (q z F H (Ex.refl F) e (Ex.refl H) (Nw.refl F H) h1)
theorem op1_v {r : List V → Hp → VK → Prop} {ds : List D} {c : D} (h : ∀ {F H : Hp} {vs : List V}, Ex F H → RpA K F vs ds → ∃ z, Rp K F z c ∧ ∀ Q : VK, Q z H → r vs H Q) : OpN K r ds c := .mk fun {F H vs} e r1 Q q => by
  obtain ⟨z, h1, h2⟩ := h e r1
  exact h2 Q (q z F H (Ex.refl F) e (Ex.refl H) (Nw.refl F H) h1)
theorem rp_int {F : Hp} {v : V} {i : Int} (h : Rp K F v (.int i)) : v = .int i := by
  cases h
  rfl
theorem rp_str {F : Hp} {v : V} {i : Str} (h : Rp K F v (.str i)) : v = .str i := by
  cases h
  rfl
theorem rp_bl {F : Hp} {v : V} {i : Bool} (h : Rp K F v (.bl i)) : v = .bl i := by
  cases h
  rfl
theorem rp_non {F : Hp} {v : V} (h : Rp K F v .non) : v = .non := by
  cases h
  rfl
theorem rpa1 {F : Hp} {vs : List V} {a : D} (h : RpA K F vs [a]) : ∃ v, vs = [v] ∧ Rp K F v a := by
  cases h with
  | cons r t =>
    cases t
    exact ⟨_, rfl, r⟩
theorem rpa2 {F : Hp} {vs : List V} {a b : D} (h : RpA K F vs [a, b]) : ∃ v w, vs = [v, w] ∧ Rp K F v a ∧ Rp K F w b := by
  cases h with
  | cons r t =>
    cases t with
    | cons r2 t =>
      cases t
      exact ⟨_, _, rfl, r, r2⟩
theorem d_ii {g : Int → Int → V} {c : Int → Int → D} (hg : ∀ F i j, Rp K F (g i j) (c i j)) (i j : Int) : Op2 K (rI0 g) (.int i) (.int j) (c i j) := op2_v fun {F H x y} e r1 r2 => ⟨g i j, hg F i j, fun Q q => ⟨i, j, rp_int r1, rp_int r2, q⟩⟩
theorem d_iiC {C : Int → Int → Prop} {g : Int → Int → V} {c : Int → Int → D} (hg : ∀ F i j, Rp K F (g i j) (c i j)) {i j : Int} (hc : C i j) : Op2 K (rI C g) (.int i) (.int j) (c i j) := op2_v fun {F H x y} e r1 r2 => ⟨g i j, hg F i j, fun Q q => ⟨i, j, rp_int r1, rp_int r2, hc, q⟩⟩
theorem op2_l {r r' : R2} {a b c : D} (h : Op2 K r a b c) : Op2 K (orR r r') a b c := .mk fun {F H x y} e r1 r2 Q q => Or.inl (h e r1 r2 Q q)
theorem op2_r {r r' : R2} {a b c : D} (h : Op2 K r' a b c) : Op2 K (orR r r') a b c := .mk fun {F H x y} e r1 r2 Q q => Or.inr (h e r1 r2 Q q)
theorem opn_l {r r' : List V → Hp → VK → Prop} {ds : List D} {c : D} (h : OpN K r ds c) : OpN K (orC r r') ds c := .mk fun {F H vs} e r1 Q q => Or.inl (h e r1 Q q)
theorem opn_r {r r' : List V → Hp → VK → Prop} {ds : List D} {c : D} (h : OpN K r' ds c) : OpN K (orC r r') ds c := .mk fun {F H vs} e r1 Q q => Or.inr (h e r1 Q q)
theorem d_addI {i j : Int} : Op2 K (gAdd K) (.int i) (.int j) (.int (i + j)) := op2_l (d_ii (c := fun i j => .int (i + j)) (fun _ _ _ => .int _) i j)
theorem d_subI {i j : Int} : Op2 K gSub (.int i) (.int j) (.int (i - j)) := d_ii (c := fun i j => .int (i - j)) (fun _ _ _ => .int _) i j
theorem d_mulI {i j : Int} (h : CMul i j) : Op2 K gMul (.int i) (.int j) (.int (i * j)) := op2_l (d_iiC (c := fun i j => .int (i * j)) (fun _ _ _ => .int _) h)
theorem d_fdv {i j : Int} (h : 0 < j) (h2 : j < 115792089237316195423570985008687907853269984665640564039457584007913129639936) : Op2 K gFdv (.int i) (.int j) (.int (i / j)) := d_iiC (c := fun i j => .int (i / j)) (fun _ _ _ => .int _) (wide_div (b := 256) h (by omega) (by decide) (by decide))
theorem d_mod {i j : Int} (h : 0 < j) : Op2 K gMod (.int i) (.int j) (.int (i % j)) := d_iiC (C := fun _ j => 0 < j) (c := fun i j => .int (i % j)) (fun _ _ _ => .int _) (i := i) (j := j) h
theorem d_pow {i j : Int} (h : CPow i j) : Op2 K gPow (.int i) (.int j) (.int (i ^ j.toNat)) := d_iiC (c := fun i j => .int (i ^ j.toNat)) (fun _ _ _ => .int _) h
theorem d_pow9 : Op2 K gPow (.int 10) (.int 9) (.int 1000000000) := by
  have h := d_pow (K := K) (i := 10) (j := 9) ⟨by decide, by decide, by decide⟩
  exact h
theorem d_pow12 : Op2 K gPow (.int 10) (.int 12) (.int 1000000000000) := by
  have h := d_pow (K := K) (i := 10) (j := 12) ⟨by decide, by decide, by decide⟩
  exact h
theorem d_pow6 : Op2 K gPow (.int 10) (.int 6) (.int 1000000) := by
  have h := d_pow (K := K) (i := 10) (j := 6) ⟨by decide, by decide, by decide⟩
  exact h
theorem d_ltI {i j : Int} : Op2 K gLt (.int i) (.int j) (.bl (decide (i < j))) := op2_l (d_ii (c := fun i j => .bl (decide (i < j))) (fun _ _ _ => .bl _) i j)
theorem d_leI {i j : Int} : Op2 K gLe (.int i) (.int j) (.bl (decide (i ≤ j))) := op2_l (d_ii (c := fun i j => .bl (decide (i ≤ j))) (fun _ _ _ => .bl _) i j)
theorem d_gtI {i j : Int} : Op2 K gGt (.int i) (.int j) (.bl (decide (j < i))) := d_ii (c := fun i j => .bl (decide (j < i))) (fun _ _ _ => .bl _) i j
theorem d_geI {i j : Int} : Op2 K gGe (.int i) (.int j) (.bl (decide (j ≤ i))) := d_ii (c := fun i j => .bl (decide (j ≤ i))) (fun _ _ _ => .bl _) i j
theorem d_addS {i j : Str} (h : i.length + j.length ≤ 100000) : Op2 K (gAdd K) (.str i) (.str j) (.str (i ++ j)) := op2_r (op2_l (op2_v fun {F H x y} e r1 r2 => ⟨.str (i ++ j), .str _, fun Q q => ⟨i, j, rp_str r1, rp_str r2, sz_of h, q⟩⟩))
theorem d_leS {i j : Str} : Op2 K gLe (.str i) (.str j) (.bl (!decide (j.cps.toList < i.cps.toList))) := op2_r (op2_v fun {F H x y} e r1 r2 => ⟨.bl _, .bl _, fun Q q => ⟨i, j, rp_str r1, rp_str r2, q⟩⟩)
theorem d_ltS {i j : Str} : Op2 K gLt (.str i) (.str j) (.bl (decide (i.cps.toList < j.cps.toList))) := op2_r (op2_v fun {F H x y} e r1 r2 => ⟨.bl _, .bl _, fun Q q => ⟨i, j, rp_str r1, rp_str r2, q⟩⟩)
theorem d_inC {c : Nat} {z : Str} : Op2 K (gIn K) (.str ⟨#[c]⟩) (.str z) (.bl (decide (c ∈ z.cps.toList))) := op2_l (op2_v fun {F H x y} e r1 r2 => ⟨.bl _, .bl _, fun Q q => ⟨c, z, rp_str r1, rp_str r2, q⟩⟩)
theorem d_niC {c : Nat} {z : Str} : Op2 K (gNi K) (.str ⟨#[c]⟩) (.str z) (.bl (!decide (c ∈ z.cps.toList))) := op2_l (op2_v fun {F H x y} e r1 r2 => ⟨.bl _, .bl _, fun Q q => ⟨c, z, rp_str r1, rp_str r2, q⟩⟩)
theorem d_catL {a b : List D} (h : a.length + b.length ≤ 100000) : Op2O K (gAdd K) (.lst a) (.lst b) (a ++ b) := .mk fun {F H x y} e r1 r2 Q q => by
  cases r1 with
  | lst h1 s1 =>
    cases r2 with
    | lst h2 s2 => exact Or.inr (Or.inr ⟨_, _, _, _, rfl, rfl, e _ _ h1, e _ _ h2, sz_of (by rw [s1.length, s2.length]; exact h), fun p hp => q p _ _ (Ex.new hp) hp upd_same (s1.app s2)⟩)
/-! equality -/
mutual
def toP : D → PyData
  | .non => .none
  | .bl b => .bool b
  | .int i => .int i
  | .str s => .str s
  | .lst xs => .list (toPs xs)
  | .tup xs => .tuple (toPs xs)
  | .dic _ => .none
  | .obj _ _ => .none
  | .scr ns => .list (ns.map PyData.int)
  | .exc _ => .none
  | .ptr _ => .none
def toPs : List D → List PyData
  | [] => []
  | x :: xs => toP x :: toPs xs
end
mutual
def plain : D → Bool
  | .lst xs => plains xs
  | .tup xs => plains xs
  | .dic _ => false
  | .obj _ _ => false
  | .exc _ => false
  | .ptr _ => false
  | _ => true
def plains : List D → Bool
  | [] => true
  | x :: xs => plain x && plains xs
end
theorem dp_ints {F : Hp} : ∀ ns : List Int, DpAll K F (ns.map V.int) (ns.map PyData.int)
  | [] => .nil
  | n :: ns => .cons (.int n) (dp_ints ns)
mutual
theorem rp_dp {F : Hp} : ∀ {v : V} {d : D}, Rp K F v d → plain d = true → Dp K F v (toP d)
  | _, _, .non, _ => by unfold toP; exact .non
  | _, _, .bl b, _ => by unfold toP; exact .bl b
  | _, _, .int i, _ => by unfold toP; exact .int i
  | _, _, .str x, _ => by unfold toP; exact .str x
  | _, .lst ds, .lst h r, p => by
    unfold toP
    exact .lst (sq_of h) (rpa_dp r (by unfold plain at p; exact p))
  | _, .tup ds, .tup h r, p => by
    unfold toP
    exact .tup (st_of h) (rpa_dp r (by unfold plain at p; exact p))
  | _, .dic _, .dic _ _ _, p => by unfold plain at p; cases p
  | _, .obj _ _, .obj _ _ _, p => by unfold plain at p; cases p
  | _, .exc _, .exc _, p => by unfold plain at p; cases p
  | _, .ptr _, .ptr _, p => by unfold plain at p; cases p
  | _, .scr ns, .scr h, _ => by
    unfold toP
    exact .lst h (dp_ints ns)
theorem rpa_dp {F : Hp} : ∀ {vs : List V} {ds : List D}, RpA K F vs ds → plains ds = true → DpAll K F vs (toPs ds)
  | _, _, .nil, _ => by unfold toPs; exact .nil
  | _, d :: ds, .cons r t, p => by
    unfold plains at p
    rw [Bool.and_eq_true] at p
    unfold toPs
    exact .cons (rp_dp r p.1) (rpa_dp t p.2)
end
def eqD (a b : D) : Bool := PyData.eqv (toP a) (toP b)
def okEq (a : D) : Bool := plain a && SeqAt.shaped (toP a)
theorem d_eqD {a b : D} (ha : okEq a = true) (hb : okEq b = true) : Op2 K (gEq K) a b (.bl (eqD a b)) := op2_r (op2_v fun {F H x y} e r1 r2 => by
  unfold okEq at ha hb
  rw [Bool.and_eq_true] at ha hb
  exact ⟨.bl _, .bl _, fun Q q => ⟨toP a, toP b, rp_dp (r1.mono e) ha.1, rp_dp (r2.mono e) hb.1, ha.2, hb.2, q⟩⟩)
theorem sq_rp {F H : Hp} {v : V} {l : List D} (e : Ex F H) (r : Rp K F v (.lst l)) : ∃ a xs, v = .ref a ∧ SqL K H a xs ∧ xs.length = l.length := by
  cases r with
  | lst ha rs => exact ⟨_, _, rfl, sq_of (e _ _ ha), rs.length⟩
theorem d_neLen {a b : List D} (h : a.length ≠ b.length) : Op2 K (gNe K) (.lst a) (.lst b) (.bl true) := op2_r (op2_r (op2_v fun {F H x y} e r1 r2 => by
  obtain ⟨p, xs, rfl, s1, l1⟩ := sq_rp e r1
  obtain ⟨q', ys, rfl, s2, l2⟩ := sq_rp e r2
  exact ⟨.bl _, .bl _, fun Q q => ⟨p, q', xs, ys, rfl, rfl, s1, s2, by rw [l1, l2]; exact h, q⟩⟩))
theorem d_neD {a b : D} (ha : okEq a = true) (hb : okEq b = true) : Op2 K (gNe K) a b (.bl (!eqD a b)) := op2_r (op2_l (op2_v fun {F H x y} e r1 r2 => by
  unfold okEq at ha hb
  rw [Bool.and_eq_true] at ha hb
  exact ⟨.bl _, .bl _, fun Q q => ⟨toP a, toP b, rp_dp (r1.mono e) ha.1, rp_dp (r2.mono e) hb.1, ha.2, hb.2, q⟩⟩))
theorem d_eqI {i j : Int} : Op2 K (gEq K) (.int i) (.int j) (.bl (decide (i = j))) := op2_l (op2_v fun {F H x y} e r1 r2 => ⟨.bl (decide (i = j)), .bl _, fun Q q => by
  rw [rp_int r1, rp_int r2]
  refine ⟨rfl, ?_⟩
  have h : decide (V.int i = V.int j) = decide (i = j) := by
    by_cases z : i = j
    · rw [decide_eq_true z, decide_eq_true (by rw [z])]
    · rw [decide_eq_false z, decide_eq_false (fun q => z (V.int.inj q))]
  rw [h]
  exact q⟩)
theorem d_neI {i j : Int} : Op2 K (gNe K) (.int i) (.int j) (.bl (!decide (i = j))) := op2_l (op2_v fun {F H x y} e r1 r2 => ⟨.bl (!decide (i = j)), .bl _, fun Q q => by
  rw [rp_int r1, rp_int r2]
  refine ⟨rfl, ?_⟩
  have h : decide (V.int i = V.int j) = decide (i = j) := by
    by_cases z : i = j
    · rw [decide_eq_true z, decide_eq_true (by rw [z])]
    · rw [decide_eq_false z, decide_eq_false (fun q => z (V.int.inj q))]
  rw [h]
  exact q⟩)
theorem dec_vstr {i j : Str} : decide (V.str i = V.str j) = decide (i = j) := by
  by_cases z : i = j
  · rw [decide_eq_true z, decide_eq_true (by rw [z])]
  · rw [decide_eq_false z, decide_eq_false (fun q => z (V.str.inj q))]
theorem d_eqS {i j : Str} : Op2 K (gEq K) (.str i) (.str j) (.bl (decide (i = j))) := op2_l (op2_v fun {F H x y} e r1 r2 => ⟨.bl (decide (i = j)), .bl _, fun Q q => by
  rw [rp_str r1, rp_str r2]
  refine ⟨rfl, ?_⟩
  rw [dec_vstr]
  exact q⟩)
theorem d_neS {i j : Str} : Op2 K (gNe K) (.str i) (.str j) (.bl (!decide (i = j))) := op2_l (op2_v fun {F H x y} e r1 r2 => ⟨.bl (!decide (i = j)), .bl _, fun Q q => by
  rw [rp_str r1, rp_str r2]
  refine ⟨rfl, ?_⟩
  rw [dec_vstr]
  exact q⟩)
def isNon : D → Bool
  | .non => true
  | _ => false
theorem rp_isN {F : Hp} {v : V} {d : D} (h : Rp K F v d) : decide (v = .non) = isNon d := by
  cases h <;> rfl
theorem d_isN {d : D} : Op2 K gIs d .non (.bl (isNon d)) := op2_l (op2_v fun {F H x y} e r1 r2 => ⟨.bl (isNon d), .bl _, fun Q q => ⟨rp_non r2, by rw [rp_isN r1]; exact q⟩⟩)
theorem d_niN {d : D} : Op2 K gIn2 d .non (.bl (!isNon d)) := op2_l (op2_v fun {F H x y} e r1 r2 => ⟨.bl (!isNon d), .bl _, fun Q q => ⟨rp_non r2, by rw [rp_isN r1]; exact q⟩⟩)
theorem d_isB {a b : Bool} : Op2 K gIs (.bl a) (.bl b) (.bl (decide (a = b))) := op2_r (op2_v fun {F H x y} e r1 r2 => ⟨_, .bl _, fun Q q => ⟨a, b, rp_bl r1, rp_bl r2, q⟩⟩)
/-! items -/
theorem atI_rp {F : Hp} {vs : List V} {ds : List D} {i : Int} {d : D} (r : RpA K F vs ds) (h : atI ds i = some d) : ∃ v, atI vs i = some v ∧ Rp K F v d := by
  unfold atI at h ⊢
  rw [r.length]
  cases q : ixN ds.length i with
  | none =>
    rw [q] at h
    cases h
  | some j =>
    rw [q] at h
    exact r.get h
theorem d_ixL {i : Int} (h : atI l i = some d) : Op2 K (gIx K) (.lst l) (.int i) d := op2_v fun {F H x y} e r1 r2 => by
  cases r1 with
  | lst h1 s1 =>
    obtain ⟨v, h3, h4⟩ := atI_rp s1 h
    exact ⟨v, h4, fun Q q => Or.inl ⟨_, _, i, v, rfl, rp_int r2, sq_of (e _ _ h1), h3, q⟩⟩
theorem d_ixT {i : Int} (h : atI l i = some d) : Op2 K (gIx K) (.tup l) (.int i) d := op2_v fun {F H x y} e r1 r2 => by
  cases r1 with
  | tup h1 s1 =>
    obtain ⟨v, h3, h4⟩ := atI_rp s1 h
    exact ⟨v, h4, fun Q q => Or.inr (Or.inl ⟨_, _, i, v, rfl, rp_int r2, st_of (e _ _ h1), h3, q⟩)⟩
theorem d_ixR {ns : List Int} {i n : Int} (h : atI ns i = some n) : Op2 K (gIx K) (.scr ns) (.int i) (.int n) := op2_v fun {F H x y} e r1 r2 => by
  cases r1 with
  | scr h1 =>
    refine ⟨.int n, .int n, fun Q q => Or.inl ⟨_, _, i, .int n, rfl, rp_int r2, ex_l e h1, ?_, q⟩⟩
    unfold atI at h ⊢
    rw [List.length_map]
    cases z : ixN ns.length i with
    | none =>
      rw [z] at h
      cases h
    | some j =>
      rw [z] at h
      show (ns.map V.int)[j]? = _
      have h' : ns[j]? = some n := h
      rw [List.getElem?_map, h']
      rfl
theorem d_ixS {z : Str} {i : Int} {c : Nat} (hz : z.length ≤ 100000) (h : atI z.cps.toList i = some c) : Op2 K (gIx K) (.str z) (.int i) (.str ⟨#[c]⟩) := op2_v fun {F H x y} e r1 r2 => by
  refine ⟨.str ⟨#[c]⟩, .str _, fun Q q => Or.inr (Or.inr ?_)⟩
  exact ⟨z, i, c, rp_str r1, rp_int r2, sz_of hz, h, q⟩
theorem atI_getD {α : Type} {xs : List α} {i : Int} (e : α) (h0 : 0 ≤ i) (h1 : i < (xs.length : Int)) : atI xs i = some (xs.getD i.toNat e) := by
  obtain ⟨j, rfl⟩ : ∃ j : Nat, i = (j : Int) := ⟨i.toNat, by omega⟩
  refine atI_nat ?_
  rw [Int.toNat_natCast, List.getD_eq_getElem?_getD, List.getElem?_eq_getElem (by omega)]
  rfl
theorem d_ixLn {i : Int} (h0 : 0 ≤ i) (h1 : i < (l.length : Int)) : Op2 K (gIx K) (.lst l) (.int i) (l.getD i.toNat .non) := d_ixL (atI_getD _ h0 h1)
theorem d_ixTn {i : Int} (h0 : 0 ≤ i) (h1 : i < (l.length : Int)) : Op2 K (gIx K) (.tup l) (.int i) (l.getD i.toNat .non) := d_ixT (atI_getD _ h0 h1)
theorem d_ixRn {ns : List Int} {i : Int} (h0 : 0 ≤ i) (h1 : i < (ns.length : Int)) : Op2 K (gIx K) (.scr ns) (.int i) (.int (ns.getD i.toNat 0)) := d_ixR (atI_getD _ h0 h1)
theorem d_ixSn {z : Str} {i : Int} (hz : z.length ≤ 100000) (h0 : 0 ≤ i) (h1 : i < (z.cps.toList.length : Int)) : Op2 K (gIx K) (.str z) (.int i) (.str ⟨#[z.cps.toList.getD i.toNat 0]⟩) := d_ixS hz (atI_getD _ h0 h1)
theorem getD_mapD {α : Type} (f : α → D) (e : α) : ∀ (ns : List α) (i : Nat), i < ns.length → (ns.map f).getD i .non = f (ns.getD i e)
  | [], i, h => by simp at h
  | n :: ns, 0, _ => rfl
  | n :: ns, i + 1, h => by
    show (ns.map f).getD i .non = f (ns.getD i e)
    exact getD_mapD f e ns i (by simpa using h)
theorem d_ixI {ns : List Int} {i : Int} (h0 : 0 ≤ i) (h1 : i < (ns.length : Int)) : Op2 K (gIx K) (.lst (ns.map D.int)) (.int i) (.int (ns.getD i.toNat 0)) := by
  have h := d_ixLn (K := K) (l := ns.map D.int) (i := i) h0 (by rw [List.length_map]; exact h1)
  rw [getD_mapD D.int 0 ns _ (by omega)] at h
  exact h
theorem d_ixStr {ns : List Str} {i : Int} (h0 : 0 ≤ i) (h1 : i < (ns.length : Int)) : Op2 K (gIx K) (.lst (ns.map D.str)) (.int i) (.str (ns.getD i.toNat Str.empty)) := by
  have h := d_ixLn (K := K) (l := ns.map D.str) (i := i) h0 (by rw [List.length_map]; exact h1)
  rw [getD_mapD D.str Str.empty ns _ (by omega)] at h
  exact h
theorem getD_in {α : Type} (e : α) : ∀ (ns : List α) (i : Nat), i < ns.length → ns.getD i e ∈ ns
  | [], i, h => by simp at h
  | n :: ns, 0, _ => List.mem_cons_self
  | n :: ns, i + 1, h => List.mem_cons_of_mem _ (getD_in e ns i (by simpa using h))
/-! slices -/
def cutD (xs : List D) (lo hi : Option Int) : List D := (xs.drop (HT.sIx xs.length 0 lo)).take (HT.sIx xs.length xs.length hi - HT.sIx xs.length 0 lo)
theorem cutD_rp {F : Hp} {vs : List V} {ds : List D} (r : RpA K F vs ds) (lo hi : Option Int) : RpA K F (cutV vs lo hi) (cutD ds lo hi) := by
  unfold cutV cutD
  rw [r.length]
  exact (r.drop _).take _
theorem o_sl {tl th : TO} {lo hi : Option Int} (h : EvD K te G (.lst l)) (h1 : EvP K tl G lo) (h2 : EvP K th G hi) : EvO K (tSl (gSl K) te tl th) G (cutD l lo hi) := .mk fun {H0 F0 F H σ} E Q q =>
  h E _ fun v F1 H1 E1 f1 g1 n1 r1 => h1 E1 _ fun F2 H2 E2 f2 g2 n2 => h2 E2 _ fun F3 H3 E3 f3 g3 n3 => by
    cases r1 with
    | lst ha rs =>
      refine Or.inl ⟨_, _, rfl, sq_of (g3 _ _ (g2 _ _ (E1.ef _ _ ha))), fun p hp => ?_⟩
      exact q p _ F3 _ (E3.grow (Ex.refl _) (Ex.new hp) (E3.ef.trans (Ex.new hp)) (Nw.refl _ _)) ((f1.trans f2).trans f3) (((g1.trans g2).trans g3).trans (Ex.new hp)) ((n1.trans n2 g1).trans n3 (g1.trans g2))
        (ex_none ((g1.trans g2).trans g3) hp) (ex_none E3.ef hp) upd_same (cutD_rp (rs.mono (f2.trans f3)) lo hi)
theorem e_slS {tl th : TO} {z : Str} {lo hi : Option Int} (h : EvD K te G (.str z)) (h1 : EvP K tl G lo) (h2 : EvP K th G hi) (hz : z.length ≤ 100000) : EvD K (tSl (gSl K) te tl th) G (.str (cutS z lo hi)) := .mk fun {H0 F0 F H σ} E Q q =>
  h E _ fun v F1 H1 E1 f1 g1 n1 r1 => h1 E1 _ fun F2 H2 E2 f2 g2 n2 => h2 E2 _ fun F3 H3 E3 f3 g3 n3 => by
    cases r1
    exact Or.inr ⟨z, rfl, sz_of hz, q _ F3 H3 E3 ((f1.trans f2).trans f3) ((g1.trans g2).trans g3) ((n1.trans n2 g1).trans n3 (g1.trans g2)) (.str _)⟩
/-! calls of built-ins -/
theorem n_max2 {i j : Int} : OpN K (gMax K) [.int i, .int j] (.int (max i j)) := opn_l (op1_v fun {F H vs} e r => by
  obtain ⟨v, w, rfl, r1, r2⟩ := rpa2 r
  refine ⟨.int (max i j), .int _, fun Q q => ⟨i, j, by rw [rp_int r1, rp_int r2], ?_⟩⟩
  have h : (if j > i then j else i) = max i j := by
    by_cases z : j > i
    · rw [if_pos z]
      omega
    · rw [if_neg z]
      omega
  rw [h]
  exact q)
theorem n_min2 {i j : Int} : OpN K (gMin K) [.int i, .int j] (.int (min i j)) := opn_l (op1_v fun {F H vs} e r => by
  obtain ⟨v, w, rfl, r1, r2⟩ := rpa2 r
  refine ⟨.int (min i j), .int _, fun Q q => ⟨i, j, by rw [rp_int r1, rp_int r2], ?_⟩⟩
  have h : (if j < i then j else i) = min i j := by
    by_cases z : j < i
    · rw [if_pos z]
      omega
    · rw [if_neg z]
      omega
  rw [h]
  exact q)
theorem n_abs {i : Int} : OpN K rAbs [.int i] (.int (i.natAbs : Int)) := op1_v fun {F H vs} e r => by
  obtain ⟨v, rfl, r1⟩ := rpa1 r
  refine ⟨.int (i.natAbs : Int), .int _, fun Q q => ⟨i, by rw [rp_int r1], ?_⟩⟩
  have h : (if i < 0 then -i else i) = (i.natAbs : Int) := by
    by_cases z : i < 0
    · rw [if_pos z]
      omega
    · rw [if_neg z]
      omega
  rw [h]
  exact q
theorem n_lenL : OpN K (rLen K) [.lst l] (.int (l.length : Int)) := op1_v fun {F H vs} e r => by
  obtain ⟨v, rfl, r1⟩ := rpa1 r
  cases r1 with
  | lst h1 s1 => exact ⟨.int _, .int _, fun Q q => ⟨_, l.length, rfl, Or.inl ⟨_, sq_of (e _ _ h1), s1.length.symm⟩, q⟩⟩
theorem n_lenT : OpN K (rLen K) [.tup l] (.int (l.length : Int)) := op1_v fun {F H vs} e r => by
  obtain ⟨v, rfl, r1⟩ := rpa1 r
  cases r1 with
  | tup h1 s1 => exact ⟨.int _, .int _, fun Q q => ⟨_, l.length, rfl, Or.inr ⟨_, st_of (e _ _ h1), s1.length.symm⟩, q⟩⟩
theorem n_lenR {ns : List Int} : OpN K (rLen K) [.scr ns] (.int (ns.length : Int)) := op1_v fun {F H vs} e r => by
  obtain ⟨v, rfl, r1⟩ := rpa1 r
  cases r1 with
  | scr h1 => exact ⟨.int _, .int _, fun Q q => ⟨_, ns.length, rfl, Or.inl ⟨_, ex_l e h1, by rw [List.length_map]⟩, q⟩⟩
theorem n_lenS {z : Str} (hz : z.length ≤ 100000) : OpN K (rLen K) [.str z] (.int (z.length : Int)) := op1_v fun {F H vs} e r => by
  obtain ⟨v, rfl, r1⟩ := rpa1 r
  cases r1
  exact ⟨.int _, .int _, fun Q q => ⟨_, z.length, rfl, ⟨sz_of hz, rfl⟩, q⟩⟩
theorem n_intS {z : Str} {n : Int} (h : PySem.intText? z = some n) (hz : z.length ≤ 640) : OpN K gInt [.str z] (.int n) := opn_r (op1_v fun {F H vs} e r => by
  obtain ⟨v, rfl, r1⟩ := rpa1 r
  cases r1
  exact ⟨.int _, .int _, fun Q q => ⟨z, n, rfl, h, hz, q⟩⟩)
theorem n_strI {n : Int} (h : n.natAbs.log2 < 1920) : OpN K gStr [.int n] (.str (toString n)) := opn_l (op1_v fun {F H vs} e r => by
  obtain ⟨v, rfl, r1⟩ := rpa1 r
  cases r1
  exact ⟨.str _, .str _, fun Q q => ⟨n, rfl, h, q⟩⟩)
def reprB (b : Bool) : Str := if b then "True" else "False"
theorem n_reprB {b : Bool} : OpN K gRepr [.bl b] (.str (reprB b)) := opn_r (opn_l (op1_v fun {F H vs} e r => by
  obtain ⟨v, rfl, r1⟩ := rpa1 r
  cases r1
  refine ⟨.str (reprB b), .str _, fun Q q => ⟨b, rfl, ?_⟩⟩
  unfold reprB at q
  cases b <;> exact q))
theorem n_reprI {n : Int} (h : n.natAbs.log2 < 1920) : OpN K gRepr [.int n] (.str (toString n)) := opn_l (op1_v fun {F H vs} e r => by
  obtain ⟨v, rfl, r1⟩ := rpa1 r
  cases r1
  exact ⟨.str _, .str _, fun Q q => ⟨n, rfl, h, q⟩⟩)
theorem n_reprN : OpN K gRepr [.non] (.str "None") := opn_r (opn_r (opn_l (op1_v fun {F H vs} e r => by
  obtain ⟨v, rfl, r1⟩ := rpa1 r
  cases r1
  exact ⟨.str _, .str _, fun Q q => ⟨rfl, q⟩⟩)))
theorem n_reprS {z : Str} (h : (reprText z).length ≤ sizeLine) : OpN K gRepr [.str z] (.str (reprText z)) := opn_r (opn_r (opn_r (op1_v fun {F H vs} e r => by
  obtain ⟨v, rfl, r1⟩ := rpa1 r
  cases r1
  exact ⟨.str _, .str _, fun Q q => ⟨z, rfl, h, q⟩⟩)))
theorem n_listL : OpNO K (rListOf K) [.lst l] l := .mk fun {F H vs} e r Q q => by
  obtain ⟨v, rfl, r1⟩ := rpa1 r
  cases r1 with
  | lst h1 s1 => exact ⟨_, _, rfl, Or.inl (sq_of (e _ _ h1)), fun p hp => q p _ _ (Ex.new hp) hp upd_same s1⟩
theorem n_listT : OpNO K (rListOf K) [.tup l] l := .mk fun {F H vs} e r Q q => by
  obtain ⟨v, rfl, r1⟩ := rpa1 r
  cases r1 with
  | tup h1 s1 => exact ⟨_, _, rfl, Or.inr (st_of (e _ _ h1)), fun p hp => q p _ _ (Ex.new hp) hp upd_same s1⟩
theorem n_all {bs : List Bool} : OpN K (rAll K) [.lst (bs.map D.bl)] (.bl (bs.all id)) := op1_v fun {F H vs} e r => by
  obtain ⟨v, rfl, r1⟩ := rpa1 r
  cases r1 with
  | lst h1 s1 => exact ⟨.bl _, .bl _, fun Q q => ⟨_, bs, rfl, sq_of (e _ _ (by rw [h1, s1.bls])), q⟩⟩
theorem n_any {bs : List Bool} : OpN K (rAny K) [.lst (bs.map D.bl)] (.bl (bs.any id)) := op1_v fun {F H vs} e r => by
  obtain ⟨v, rfl, r1⟩ := rpa1 r
  cases r1 with
  | lst h1 s1 => exact ⟨.bl _, .bl _, fun Q q => ⟨_, bs, rfl, sq_of (e _ _ (by rw [h1, s1.bls])), q⟩⟩
/-- the greatest, the least of a list -/
theorem n_maxL {ns : List Int} {m : Int} (h0 : m ∈ ns) (h1 : ∀ y ∈ ns, y ≤ m) : OpN K (gMax K) [.lst (ns.map D.int)] (.int m) := opn_r (op1_v fun {F H vs} e r => by
  obtain ⟨v, rfl, r1⟩ := rpa1 r
  cases r1 with
  | lst h2 s1 =>
    refine ⟨.int m, .int _, fun Q q => ⟨_, ns, rfl, sq_of (e _ _ (by rw [h2, s1.ints])), List.length_pos_of_mem h0, fun m' hm' hy => ?_⟩⟩
    have e1 := h1 m' hm'
    have e2 := hy m h0
    have e3 : m' = m := by omega
    rw [e3]
    exact q)
theorem n_minL {ns : List Int} {m : Int} (h0 : m ∈ ns) (h1 : ∀ y ∈ ns, m ≤ y) : OpN K (gMin K) [.lst (ns.map D.int)] (.int m) := opn_r (op1_v fun {F H vs} e r => by
  obtain ⟨v, rfl, r1⟩ := rpa1 r
  cases r1 with
  | lst h2 s1 =>
    refine ⟨.int m, .int _, fun Q q => ⟨_, ns, rfl, sq_of (e _ _ (by rw [h2, s1.ints])), List.length_pos_of_mem h0, fun m' hm' hy => ?_⟩⟩
    have e1 := h1 m' hm'
    have e2 := hy m h0
    have e3 : m' = m := by omega
    rw [e3]
    exact q)
/-! isinstance -/
theorem ty_of {F : Hp} {v : V} {d : D} (h : Rp K F v d) (hn : noObj d = true) {H : Hp} (e : Ex F H) : TyX K H v (.type (kindD d)) := by
  cases h with
  | non => exact .base .non
  | bl b => exact .base (.bl b)
  | int i => exact .base (.int i)
  | str x => exact .base (.str x)
  | lst h1 _ => exact .base (.lst (e _ _ h1))
  | tup h1 _ => exact .base (.tup (e _ _ h1))
  | dic h1 _ _ => exact .base (.dK (e _ _ h1))
  | obj _ _ _ => cases hn
  | exc _ => cases hn
  | ptr _ => cases hn
  | scr h1 =>
    rcases ex_l e h1 with (h2 | ⟨o, h2⟩) | ⟨o, its, n, h2, h3, _⟩
    · exact .base (.lst h2)
    · exact .base (.frz h2)
    · exact .kList h2 h3
def isS : D → Bool
  | .str _ => true
  | _ => false
def isI : D → Bool
  | .int _ => true
  | .bl _ => true
  | _ => false
def isB : D → Bool
  | .bl _ => true
  | _ => false
def isL : D → Bool
  | .lst _ => true
  | .scr _ => true
  | _ => false
def isT : D → Bool
  | .tup _ => true
  | _ => false
theorem kit_str {x : D} (hn : noObj x = true) : kitB (kindD x) "str" = some (isS x) := by
  cases x with
  | non => exact (by decide +kernel : kitB "NoneType" "str" = some false)
  | bl _ => exact (by decide +kernel : kitB "bool" "str" = some false)
  | int _ => exact (by decide +kernel : kitB "int" "str" = some false)
  | str _ => exact (by decide +kernel : kitB "str" "str" = some true)
  | lst _ => exact (by decide +kernel : kitB "list" "str" = some false)
  | tup _ => exact (by decide +kernel : kitB "tuple" "str" = some false)
  | dic _ => exact (by decide +kernel : kitB "dict" "str" = some false)
  | obj _ _ => cases hn
  | exc _ => cases hn
  | ptr _ => cases hn
  | scr _ => exact (by decide +kernel : kitB "list" "str" = some false)
theorem kit_int {x : D} (hn : noObj x = true) : kitB (kindD x) "int" = some (isI x) := by
  cases x with
  | non => exact (by decide +kernel : kitB "NoneType" "int" = some false)
  | bl _ => exact (by decide +kernel : kitB "bool" "int" = some true)
  | int _ => exact (by decide +kernel : kitB "int" "int" = some true)
  | str _ => exact (by decide +kernel : kitB "str" "int" = some false)
  | lst _ => exact (by decide +kernel : kitB "list" "int" = some false)
  | tup _ => exact (by decide +kernel : kitB "tuple" "int" = some false)
  | dic _ => exact (by decide +kernel : kitB "dict" "int" = some false)
  | obj _ _ => cases hn
  | exc _ => cases hn
  | ptr _ => cases hn
  | scr _ => exact (by decide +kernel : kitB "list" "int" = some false)
theorem kit_bool {x : D} (hn : noObj x = true) : kitB (kindD x) "bool" = some (isB x) := by
  cases x with
  | non => exact (by decide +kernel : kitB "NoneType" "bool" = some false)
  | bl _ => exact (by decide +kernel : kitB "bool" "bool" = some true)
  | int _ => exact (by decide +kernel : kitB "int" "bool" = some false)
  | str _ => exact (by decide +kernel : kitB "str" "bool" = some false)
  | lst _ => exact (by decide +kernel : kitB "list" "bool" = some false)
  | tup _ => exact (by decide +kernel : kitB "tuple" "bool" = some false)
  | dic _ => exact (by decide +kernel : kitB "dict" "bool" = some false)
  | obj _ _ => cases hn
  | exc _ => cases hn
  | ptr _ => cases hn
  | scr _ => exact (by decide +kernel : kitB "list" "bool" = some false)
theorem kit_list {x : D} (hn : noObj x = true) : kitB (kindD x) "list" = some (isL x) := by
  cases x with
  | non => exact (by decide +kernel : kitB "NoneType" "list" = some false)
  | bl _ => exact (by decide +kernel : kitB "bool" "list" = some false)
  | int _ => exact (by decide +kernel : kitB "int" "list" = some false)
  | str _ => exact (by decide +kernel : kitB "str" "list" = some false)
  | lst _ => exact (by decide +kernel : kitB "list" "list" = some true)
  | tup _ => exact (by decide +kernel : kitB "tuple" "list" = some false)
  | dic _ => exact (by decide +kernel : kitB "dict" "list" = some false)
  | obj _ _ => cases hn
  | exc _ => cases hn
  | ptr _ => cases hn
  | scr _ => exact (by decide +kernel : kitB "list" "list" = some true)
theorem kit_tuple {x : D} (hn : noObj x = true) : kitB (kindD x) "tuple" = some (isT x) := by
  cases x with
  | non => exact (by decide +kernel : kitB "NoneType" "tuple" = some false)
  | bl _ => exact (by decide +kernel : kitB "bool" "tuple" = some false)
  | int _ => exact (by decide +kernel : kitB "int" "tuple" = some false)
  | str _ => exact (by decide +kernel : kitB "str" "tuple" = some false)
  | lst _ => exact (by decide +kernel : kitB "list" "tuple" = some false)
  | tup _ => exact (by decide +kernel : kitB "tuple" "tuple" = some true)
  | dic _ => exact (by decide +kernel : kitB "dict" "tuple" = some false)
  | obj _ _ => cases hn
  | exc _ => cases hn
  | ptr _ => cases hn
  | scr _ => exact (by decide +kernel : kitB "list" "tuple" = some false)
theorem e_isi {T : String} {b : Bool} (h : EvD K ta G d) (hn : noObj d = true) (hk : kitB (kindD d) T = some b) : EvD K (tCB (rIsi K) (tCons ta (tCons (tC (.ty T)) tNil))) G (.bl b) := .mk fun {H0 F0 F H σ} E Q q =>
  h E _ fun v F1 H1 E1 f1 g1 n1 r1 => ⟨v, .ty T, .type (kindD d), .type T, b, rfl, .ty T, ty_of r1 hn E1.ef, kit_ty hk, q _ F1 H1 E1 f1 g1 n1 (.bl _)⟩
theorem e_isS (h : EvD K ta G d) (hn : noObj d = true) : EvD K (tCB (rIsi K) (tCons ta (tCons (tC (.ty "str")) tNil))) G (.bl (isS d)) := e_isi h hn (kit_str hn)
theorem e_isI (h : EvD K ta G d) (hn : noObj d = true) : EvD K (tCB (rIsi K) (tCons ta (tCons (tC (.ty "int")) tNil))) G (.bl (isI d)) := e_isi h hn (kit_int hn)
theorem e_isB (h : EvD K ta G d) (hn : noObj d = true) : EvD K (tCB (rIsi K) (tCons ta (tCons (tC (.ty "bool")) tNil))) G (.bl (isB d)) := e_isi h hn (kit_bool hn)
theorem e_isL (h : EvD K ta G d) (hn : noObj d = true) : EvD K (tCB (rIsi K) (tCons ta (tCons (tC (.ty "list")) tNil))) G (.bl (isL d)) := e_isi h hn (kit_list hn)
theorem e_isT (h : EvD K ta G d) (hn : noObj d = true) : EvD K (tCB (rIsi K) (tCons ta (tCons (tC (.ty "tuple")) tNil))) G (.bl (isT d)) := e_isi h hn (kit_tuple hn)
/-- sep.join(list of texts) -/
def rJoin (K : PySem.W.Frag) : V → List V → Hp → VK → Prop := fun x xs H Q => ∃ a p, ∃ ys : List Str, x = .str a ∧ xs = [.ref p] ∧ (SqL K H p (ys.map V.str) ∨ SqT K H p (ys.map V.str)) ∧
      (ys.map (·.length)).sum + ys.length * a.length ≤ 16777216 ∧ Q (.str (Txt.join a ys)) H
theorem e_join {a : Str} {ys : List Str} (h : EvD K ta G (.str a)) (h2 : EvD K tb G (.lst (ys.map D.str))) (hz : (ys.map (·.length)).sum + ys.length * a.length ≤ 16777216) : EvD K (tM1 (rJoin K) ta tb) G (.str (Txt.join a ys)) := .mk fun {H0 F0 F H σ} E Q q =>
  h E _ fun v F1 H1 E1 f1 g1 n1 r1 => by
    cases r1
    refine ⟨⟨a, rfl⟩, h2 E1 _ fun w F2 H2 E2 f2 g2 n2 r2 => ?_⟩
    cases r2 with
    | lst h3 s3 => exact ⟨a, _, ys, rfl, rfl, Or.inl (sq_of (E2.ef _ _ (by rw [h3, s3.strs]))), hz, q _ F2 H2 E2 (f1.trans f2) (g1.trans g2) (n1.trans n2 g1) (.str _)⟩
/-- text.index(sign) -/
def rSIndex : V → List V → Hp → VK → Prop := fun x xs H Q => ∃ a b i rest, x = .str a ∧ xs = [.str b] ∧ Builtin.Str.occurrences a b 0 a.length 1 = i :: rest ∧ Q (.int (i : Nat)) H
theorem e_sindex {a b : Str} {i : Nat} {rest : List Nat} (h : EvD K ta G (.str a)) (h2 : EvD K tb G (.str b)) (ho : Builtin.Str.occurrences a b 0 a.length 1 = i :: rest) : EvD K (tM1 rSIndex ta tb) G (.int (i : Int)) := .mk fun {H0 F0 F H σ} E Q q =>
  h E _ fun v F1 H1 E1 f1 g1 n1 r1 => by
    cases r1
    refine ⟨⟨a, rfl⟩, h2 E1 _ fun w F2 H2 E2 f2 g2 n2 r2 => ?_⟩
    cases r2
    exact ⟨a, b, i, rest, rfl, rfl, ho, q _ F2 H2 E2 (f1.trans f2) (g1.trans g2) (n1.trans n2 g1) (.int _)⟩
/-- {} and a written dict of one pair of numbers -/
theorem e_dnew : EvD K tDNewK G (.dic []) := .mk fun {H0 F0 F H σ} E Q q => fun p hp => by
  have ef : Ex F (upd F p (.dK [])) := Ex.new (ex_none E.ef hp)
  exact q _ (upd F p (.dK [])) _ (E.grow ef (Ex.new hp) (ex_upd_both E.ef) (nw_upd hp (Nw.refl _ _))) ef (Ex.new hp) (nw_upd hp (Nw.refl _ _)) (.dic (es := []) upd_same rfl .nil)
theorem e_disp1 {a b : Int} : EvD K (tDisp [((tC (.int a)), (tC (.int b)))]) G (.dic [(Sum.inl a, .int b)]) := .mk fun {H0 F0 F H σ} E Q q => fun p hp => by
  refine ⟨upd_same, [(Sum.inl a, V.int b)], rfl, (by show 1 ≤ 15; decide), ?_⟩
  rw [upd_upd]
  have ef : Ex F (upd F p (.dK [(Sum.inl a, V.int b)])) := Ex.new (ex_none E.ef hp)
  exact q _ (upd F p (.dK [(Sum.inl a, V.int b)])) _ (E.grow ef (Ex.new hp) (ex_upd_both E.ef) (nw_upd hp (Nw.refl _ _))) ef (Ex.new hp) (nw_upd hp (Nw.refl _ _)) (.dic (es := [(Sum.inl a, .int b)]) upd_same rfl (.cons (.int b) .nil))
theorem op1_neg {i : Int} : Op1 K (rU fun i => .int (-i)) (.int i) (.int (-i)) := .mk fun {F H x} e r Q q => ⟨i, rp_int r, q _ F H (Ex.refl F) e (Ex.refl H) (Nw.refl F H) (.int _)⟩
/-- fields -/
theorem lookup_rp {F : Hp} {f : Str} {d : D} : ∀ {gs : List (Str × V)} {fs : List (Str × D)}, gs.map (fun p => p.1) = fs.map (fun p => p.1) → RpA K F (gs.map fun p => p.2) (fs.map fun p => p.2) → fs.lookup f = some d → ∃ v, gs.lookup f = some v ∧ Rp K F v d
  | [], [], _, _, h => by cases h
  | [], _ :: _, h, _, _ => by cases h
  | _ :: _, [], h, _, _ => by cases h
  | (a, v) :: gs, (b, e) :: fs, hn, r, h => by
    have hab : a = b := by
      have := congrArg List.head? hn
      simpa using this
    have hn' : gs.map (fun p => p.1) = fs.map (fun p => p.1) := by
      have := congrArg List.tail hn
      simpa using this
    subst hab
    have r' : RpA K F (v :: gs.map fun p => p.2) (e :: fs.map fun p => p.2) := r
    cases r' with
    | cons r1 r2 =>
      by_cases z : f == a
      · rw [List.lookup_cons, z] at h ⊢
        cases h
        exact ⟨v, rfl, r1⟩
      · have z' : (f == a) = false := by simpa using z
        rw [List.lookup_cons, z'] at h ⊢
        exact lookup_rp hn' r2 h
theorem e_fld {C : Addr} {fs : List (Str × D)} {f : Str} (h : EvD K ta G (.obj C fs)) (hc : Cls K C) (hn : NoAttr K C f) (hl : fs.lookup f = some d) : EvD K (tFld K ta f) G d := .mk fun {H0 F0 F H σ} E Q q =>
  h E _ fun v F1 H1 E1 f1 g1 n1 r1 => by
    cases r1 with
    | obj h1 h2 h3 =>
      obtain ⟨v, k1, k2⟩ := lookup_rp h2 h3 hl
      exact ⟨_, C, _, _, v, rfl, E1.ef _ _ h1, hc, hn, k1, q v F1 H1 E1 f1 g1 n1 k2⟩
end
end Cy

set_option Elab.async false
set_option linter.all false
set_option maxRecDepth 100000
set_option maxHeartbeats 2000000
namespace Cy
open PySem L2 Evl
section
variable {K : PySem.W.Frag} {G G1 G2 : List Sl} {ta tb te tx : TE} {t u tt : TT} {tu tw tz : TS} {a b c d : D} {o : Out} {g : TG}
theorem st_guard {x : Bool} (h : EvTt K t G x) (h1 : x = true → StD K tu G (.rt d)) (h2 : x = false → StD K tw G (.rt d)) : StD K (tSeq (tIfS t tu tNext) tw) G (.rt d) := by
  cases x with
  | true => exact st_stop (st_if h (fun _ => h1 rfl) (fun q => nomatch q)) (fun _ q => nomatch q)
  | false => exact st_seq (st_if h (fun q => nomatch q) (fun _ => st_next)) (h2 rfl)
theorem st_guardO {x : Bool} {l : List D} (h : EvTt K t G x) (h1 : x = true → StD K tu G (.ro l)) (h2 : x = false → StD K tw G (.ro l)) : StD K (tSeq (tIfS t tu tNext) tw) G (.ro l) := by
  cases x with
  | true => exact st_stop (st_if h (fun _ => h1 rfl) (fun q => nomatch q)) (fun _ q => nomatch q)
  | false => exact st_seq (st_if h (fun q => nomatch q) (fun _ => st_next)) (h2 rfl)
/-- a guard that never fires -/
theorem st_pass (h : EvTt K t G false) (h2 : StD K tw G o) : StD K (tSeq (tIfS t tu tNext) tw) G o := st_seq (st_if h (fun q => nomatch q) (fun _ => st_next)) h2
theorem getD_map_range (items : List D) : (List.range items.length).map (fun i => items.getD i .non) = items := by
  apply List.ext_getElem
  · rw [List.length_map, List.length_range]
  · intro i h1 h2
    rw [List.getElem_map, List.getElem_range, List.getD_eq_getElem?_getD, List.getElem?_eq_getElem h2]
    rfl
theorem lcD_items (items : List D) (f : D → Bool) (v : D → D) : lcD items.length (fun i => f (items.getD i .non)) (fun i => v (items.getD i .non)) = (items.filter f).map v := by
  unfold lcD
  conv => rhs; rw [← getD_map_range items]
  rw [List.filter_map, List.map_map]
  rfl
theorem getD_of {items : List D} {i : Nat} (h : i < items.length) : items.getD i .non = items[i] := by
  rw [List.getD_eq_getElem?_getD, List.getElem?_eq_getElem h]
  rfl
theorem o_lcF {wi : TI} {items : List D} {j : Nat} (f : D → Bool) (v : D → D) (hi : ItD K wi G items) (hz : items.length ≤ 40000)
    (hf : ∀ d, d ∈ items → EvTt K tt ((wipeG G [j]).set j (.dat d)) (f d)) (hv : ∀ d, d ∈ items → f d = true → EvD K te ((wipeG G [j]).set j (.dat d)) (v d)) :
    EvO K (tLc wi (gName j) tt te [j]) G ((items.filter f).map v) := by
  rw [← lcD_items items f v]
  refine o_lc _ _ (fun i => (wipeG G [j]).set j (.dat (items.getD i .non))) keeps1 hi hz (fun i d h => ?_) (fun i h => ?_) (fun i h hh => ?_)
  · have hl := (List.getElem?_eq_some_iff.mp h)
    obtain ⟨h1, h2⟩ := hl
    rw [getD_of h1, h2]
    exact g_name
  · skip
    rw [getD_of h]
    exact hf _ (List.getElem_mem h)
  · skip
    rw [getD_of h] at hh ⊢
    exact hv _ (List.getElem_mem h) hh
theorem filter_true {α : Type} (l : List α) : l.filter (fun _ => true) = l := List.filter_eq_self.mpr fun _ _ => rfl
theorem o_lcM {wi : TI} {items : List D} {j : Nat} (v : D → D) (hi : ItD K wi G items) (hz : items.length ≤ 40000)
    (hv : ∀ d, d ∈ items → EvD K te ((wipeG G [j]).set j (.dat d)) (v d)) : EvO K (tLc wi (gName j) tYes te [j]) G (items.map v) := by
  have h := o_lcF (K := K) (G := G) (te := te) (tt := tYes) (j := j) (fun _ => true) v hi hz (fun d hd => t_yes) (fun d hd _ => hv d hd)
  rw [filter_true] at h
  exact h
/-- two names -/
theorem o_lcM2 {wi : TI} {items : List D} {i j : Nat} (hij : i ≠ j) (v w x : D → D) (hi : ItD K wi G items) (hz : items.length ≤ 40000) (hp : ∀ d, d ∈ items → d = .tup [v d, w d])
    (hv : ∀ d, d ∈ items → EvD K te (((wipeG G [i, j]).set i (.dat (v d))).set j (.dat (w d))) (x d)) : EvO K (tLc wi (gTup K 2 (gCons (gName i) (gCons (gName j) gNil))) tYes te [i, j]) G (items.map x) := by
  have e : items.map x = lcD items.length (fun _ => true) (fun i => x (items.getD i .non)) := by
    have := lcD_items items (fun _ => true) x
    rw [this, filter_true]
  rw [e]
  refine o_lc _ _ (fun n => ((wipeG G [i, j]).set i (.dat (v (items.getD n .non)))).set j (.dat (w (items.getD n .non)))) (keeps2 hij) hi hz (fun n d h => ?_) (fun n h => t_yes) (fun n h _ => ?_)
  · obtain ⟨h1, h2⟩ := List.getElem?_eq_some_iff.mp h
    rw [getD_of h1, h2]
    have hm : d ∈ items := h2 ▸ List.getElem_mem h1
    have hd := hp d hm
    conv => arg 4; rw [hd]
    exact g_tup (gs_cons g_name (gs_cons g_name gs_nil)) rfl
  · skip
    rw [getD_of h]
    exact hv _ (List.getElem_mem h)
/-- x, y = e1, e2 -/
theorem st_par {i j : Nat} {ta : TA} (h : EvS K ta G [a, b]) : StD K (tPar i j ta) G (.nx ((G.set i (.dat a)).set j (.dat b))) := .mk fun {H0 F0 F H σ E} En p => h En _ fun vs F1 H1 E1 f1 g1 n1 r1 => by
  obtain ⟨v, w, rfl, r2, r3⟩ := rpa2 r1
  exact ⟨v, w, rfl, p _ F1 H1 ((E1.setD r2 i).setD r3 j) f1⟩
theorem st_retN : StD K tRetN G (.rt .non) := .mk fun {H0 F0 F H σ E} En p => p .non F H En.ro .non
/-- xs.clear() of an owned list -/
theorem st_clear {i : Nat} {l : List D} (h : G[i]? = some (.own (.lst l))) : StD K (tDrop (tBM0 K "list" rClear (tVar i))) G (.nx (G.set i (.own (.lst [])))) := .mk fun {H0 F0 F H σ E} En p => by
  unfold tDrop tBM0
  exact e_own h En fun q xs hq hH hF hr => ⟨Or.inl ⟨rfl, xs, sq_of hH⟩, q, xs, rfl, rfl, hH, p σ F _ (En.mut h hq (.lst .nil)) (Ex.refl F)⟩
end
end Cy
namespace Cy
open PySem L2 Evl
/-! data of small depth may be compared -/
def okD : Nat → D → Bool
  | _, .non => true
  | _, .bl _ => true
  | _, .int _ => true
  | _, .str s => PyData.strOk s
  | 0, _ => false
  | n + 1, .lst xs => xs.all (okD n)
  | n + 1, .tup xs => xs.all (okD n)
  | _, .scr _ => false
  | _, .dic _ => false
  | _, .obj _ _ => false
  | _, .exc _ => false
  | _, .ptr _ => false
theorem okD_all {n : Nat} (ih : ∀ d, okD n d = true → plain d = true ∧ (toP d).canLay0 = true ∧ (toP d).depth ≤ n) : ∀ xs : List D, xs.all (okD n) = true → plains xs = true ∧ PyData.canLayAll0 (toPs xs) = true ∧ PyData.depthAll (toPs xs) ≤ n
  | [], _ => ⟨by unfold plains; rfl, by unfold toPs PyData.canLayAll0; rfl, by unfold toPs PyData.depthAll; exact Nat.zero_le _⟩
  | x :: xs, h => by
    rw [List.all_cons, Bool.and_eq_true] at h
    obtain ⟨a, b, c⟩ := ih x h.1
    obtain ⟨a', b', c'⟩ := okD_all ih xs h.2
    refine ⟨by unfold plains; rw [a, a']; rfl, by unfold toPs PyData.canLayAll0; rw [b, b']; rfl, by unfold toPs PyData.depthAll; exact Nat.max_le.mpr ⟨c, c'⟩⟩
theorem okD_ok : ∀ (n : Nat) (d : D), okD n d = true → plain d = true ∧ (toP d).canLay0 = true ∧ (toP d).depth ≤ n := by
  intro n
  induction n with
  | zero =>
    intro d h
    cases d with
    | non => exact ⟨by unfold plain; rfl, by unfold toP PyData.canLay0; rfl, by unfold toP PyData.depth; exact Nat.zero_le _⟩
    | bl _ => exact ⟨by unfold plain; rfl, by unfold toP PyData.canLay0; rfl, by unfold toP PyData.depth; exact Nat.zero_le _⟩
    | int _ => exact ⟨by unfold plain; rfl, by unfold toP PyData.canLay0; rfl, by unfold toP PyData.depth; exact Nat.zero_le _⟩
    | str s => exact ⟨by unfold plain; rfl, by unfold toP PyData.canLay0; unfold okD at h; exact h, by unfold toP PyData.depth; exact Nat.zero_le _⟩
    | lst _ => unfold okD at h; cases h
    | tup _ => unfold okD at h; cases h
    | dic _ => unfold okD at h; cases h
    | obj _ _ => unfold okD at h; cases h
    | exc _ => unfold okD at h; cases h
    | ptr _ => unfold okD at h; cases h
    | scr _ => unfold okD at h; cases h
  | succ n ih =>
    intro d h
    cases d with
    | non => exact ⟨by unfold plain; rfl, by unfold toP PyData.canLay0; rfl, by unfold toP PyData.depth; exact Nat.zero_le _⟩
    | bl _ => exact ⟨by unfold plain; rfl, by unfold toP PyData.canLay0; rfl, by unfold toP PyData.depth; exact Nat.zero_le _⟩
    | int _ => exact ⟨by unfold plain; rfl, by unfold toP PyData.canLay0; rfl, by unfold toP PyData.depth; exact Nat.zero_le _⟩
    | str s => exact ⟨by unfold plain; rfl, by unfold toP PyData.canLay0; unfold okD at h; exact h, by unfold toP PyData.depth; exact Nat.zero_le _⟩
    | lst xs =>
      unfold okD at h
      obtain ⟨a, b, c⟩ := okD_all ih xs h
      exact ⟨by unfold plain; exact a, by unfold toP PyData.canLay0; exact b, by unfold toP PyData.depth; exact Nat.succ_le_succ c⟩
    | tup xs =>
      unfold okD at h
      obtain ⟨a, b, c⟩ := okD_all ih xs h
      exact ⟨by unfold plain; exact a, by unfold toP PyData.canLay0; exact b, by unfold toP PyData.depth; exact Nat.succ_le_succ c⟩
    | dic _ => unfold okD at h; cases h
    | obj _ _ => unfold okD at h; cases h
    | exc _ => unfold okD at h; cases h
    | ptr _ => unfold okD at h; cases h
    | scr _ => unfold okD at h; cases h
theorem ok_eq {n : Nat} {d : D} (h : okD n d = true) (hn : n ≤ 64) : okEq d = true := by
  obtain ⟨a, b, c⟩ := okD_ok n d h
  unfold okEq SeqAt.shaped
  rw [a, b, decide_eq_true (Nat.le_trans c hn)]
  rfl
end Cy

set_option Elab.async false
set_option linter.all false
set_option maxRecDepth 100000
set_option maxHeartbeats 2000000
namespace Cy
open PySem L2 Evl
/-! objects made, their fields set -/
def putD (f : Str) (d : D) : List (Str × D) → List (Str × D)
  | [] => [(f, d)]
  | (g, e) :: r => if g = f then (g, d) :: r else (g, e) :: putD f d r
theorem putF_putD {K : PySem.W.Frag} {F : Hp} {f : Str} {v : V} {d : D} (r : Rp K F v d) : ∀ {gs : List (Str × V)} {fs : List (Str × D)}, gs.map (fun p => p.1) = fs.map (fun p => p.1) → RpA K F (gs.map fun p => p.2) (fs.map fun p => p.2) →
    (putF f v gs).map (fun p => p.1) = (putD f d fs).map (fun p => p.1) ∧ RpA K F ((putF f v gs).map fun p => p.2) ((putD f d fs).map fun p => p.2)
  | [], [], _, _ => ⟨rfl, .cons r .nil⟩
  | [], _ :: _, h, _ => by cases h
  | _ :: _, [], h, _ => by cases h
  | (a, u) :: gs, (b, e) :: fs, hn, hr => by
    have hab : a = b := by
      have := congrArg List.head? hn
      simpa using this
    have hn' : gs.map (fun p => p.1) = fs.map (fun p => p.1) := by
      have := congrArg List.tail hn
      simpa using this
    subst hab
    have hr' : RpA K F (u :: gs.map fun p => p.2) (e :: fs.map fun p => p.2) := hr
    cases hr' with
    | cons r1 r2 =>
      obtain ⟨i1, i2⟩ := putF_putD r hn' r2
      unfold putF putD
      by_cases z : a = f
      · rw [if_pos z, if_pos z]
        exact ⟨by rw [List.map_cons, List.map_cons, hn'], .cons r r2⟩
      · rw [if_neg z, if_neg z]
        exact ⟨by rw [List.map_cons, List.map_cons, i1], .cons r1 i2⟩
section
variable {K : PySem.W.Frag} {G G1 G2 : List Sl} {ta tb te tx : TE} {t u tt : TT} {tu tw tz : TS} {a b c d : D} {o : Out} {g : TG}
theorem st_fld {i : Nat} {p C : Addr} {fs : List (Str × D)} {f : Str} (h : G[i]? = some (.own (.ins p C fs))) (he : EvD K te G d) (hc : Cls K C) (hn : NoAttr K C f) (hl : fs.length < 1000) :
    StD K (sFld K (tVar i) te f) G (.nx (G.set i (.own (.ins p C (putD f d fs))))) := .mk fun {H0 F0 F H σ E} En q => he En _ fun v F1 H1 E1 f1 g1 n1 r1 => by
  obtain ⟨p', o, a1, b1, c1, d1, r2⟩ := E1.own i _ h
  cases r2 with
  | ins hn1 hr1 =>
    refine ⟨_, a1, _, C, _, _, rfl, d1, hc, hn, ?_, ?_⟩
    · have := congrArg List.length hn1
      rw [List.length_map, List.length_map] at this
      rw [this]
      exact hl
    · obtain ⟨k1, k2⟩ := putF_putD (f := f) r1 hn1 hr1
      exact q σ F1 _ (E1.mut h a1 (.ins k1 k2)) f1
/-- the promise of an __init__ -/
def spI (K : PySem.W.Frag) (C : Addr) (R : List D → List (Str × D) → Prop) : Sp := fun vs H Q _ => ∃ F H1 x dx ws ds fs, vs = .ref x :: ws ∧ H = upd (upd H1 dx (.own x)) x (.ins C dx []) ∧ H1 x = none ∧ H1 dx = none ∧ dx ≠ x ∧ Ex F H1 ∧ RpA K F ws ds ∧ R ds fs ∧
  ∀ gs dx' F' H', Ro H1 F F' H' → F' x = none → H' x = some (.ins C dx' gs) → gs.map (fun p => p.1) = fs.map (fun p => p.1) → RpA K F' (gs.map fun p => p.2) (fs.map fun p => p.2) → Q .non H'
theorem spI_len {C : Addr} {R : List D → List (Str × D) → Prop} {vs : List V} {H : Hp} {Q : VK} {E : XK} {n : Nat} (hR : ∀ ds d, R ds d → ds.length = n) (h : spI K C R vs H Q E) : vs.length = n + 1 := by
  obtain ⟨F, H1, x, dx, ws, ds, fs, rfl, _, _, _, _, _, r, h1, _⟩ := h
  rw [List.length_cons, r.length, hR ds fs h1]
theorem e_make {C : Addr} {R : List D → List (Str × D) → Prop} {E : XK} {ta : TA} {ds : List D} {fs : List (Str × D)} (h : EvS K ta G ds) (hR : R ds fs) : EvD K (tMake C (spI K C R) [] E ta) G (.obj C fs) := .mk fun {H0 F0 F H σ} En Q q =>
  h En _ fun vs F1 H1 E1 f1 g1 n1 r1 => fun x dx hx hdx hne => by
    refine ⟨F1, H1, x, dx, vs ++ [], ds, fs, rfl, rfl, hx, hdx, hne, E1.ef, by rw [List.append_nil]; exact r1, hR, fun gs dx' F' H' ro hF hH hn hr => ⟨rfl, ?_⟩⟩
    have ef : Ex F' (upd F' x (.ins C dx' gs)) := Ex.new hF
    have nw : Nw F1 (upd F' x (.ins C dx' gs)) H1 := nw_upd hx ro.nf
    refine q (.ref x) (upd F' x (.ins C dx' gs)) H' (E1.grow (ro.e1.trans ef) ro.e0 (fun z o y => ?_) nw) ((f1.trans ro.e1).trans ef) (g1.trans ro.e0) (n1.trans nw g1) (.obj upd_same hn (hr.mono ef))
    by_cases hz : z = x
    · subst hz
      rw [upd_same] at y
      cases y
      exact hH
    · rw [upd_ne hz] at y
      exact ro.ef z o y
def argsI (n : Nat) (x C : Addr) (ds : List D) : List Sl := .own (.ins x C []) :: args (n - 1) ds
theorem body_I {N : List Str} {C : Addr} {R : List D → List (Str × D) → Prop} {vs : List V} {H : Hp} {Q : VK} {E : XK} {t : TS} (h : spI K C R vs H Q E) (hn : ∀ ds d, R ds d → ds.length + 1 ≤ N.length)
    (hb : ∀ x ds fs, R ds fs → ∃ G, G[0]? = some (.own (.ins x C fs)) ∧ StD K t (argsI N.length x C ds) (.nx G)) : t { nx := fun _ H' => Q .non H', rt := Q } (start N vs) H := by
  obtain ⟨F, H1, x, dx, ws, ds, fs, rfl, rfl, hx, hdx, hne, e, r, hR, q⟩ := h
  obtain ⟨G, hG, hs⟩ := hb x ds fs hR
  have hl := hn ds fs hR
  have eH : Ex H1 (upd (upd H1 dx (.own x)) x (.ins C dx [])) := fun z o y => by
    have h1 : z ≠ x := ne_of_none y hx
    have h2 : z ≠ dx := ne_of_none y hdx
    rw [upd_ne h1, upd_ne h2]
    exact y
  have hstart : start N (.ref x :: ws) = some (.ref x) :: start (N.drop 1) ws := by
    have h1 : ∀ (N : List Str) (vs : List V), start N vs = vs.map some ++ List.replicate (N.length - vs.length) none := fun N vs => by
      first | rfl | (unfold start; rfl)
    rw [h1, h1]
    show some (V.ref x) :: (ws.map some ++ List.replicate (N.length - (ws.length + 1)) none) = some (V.ref x) :: (ws.map some ++ List.replicate ((N.drop 1).length - ws.length) none)
    rw [List.length_drop]
    congr 3
    omega
  rw [hstart]
  have base := start_en (K := K) (N := N.drop 1) e r (by rw [List.length_drop]; omega)
  have E1 : En K H1 F F (upd (upd H1 dx (.own x)) x (.ins C dx [])) (some (.ref x) :: start (N.drop 1) ws) (argsI N.length x C ds) := by
    have hlen : (N.drop 1).length = N.length - 1 := List.length_drop
    unfold argsI
    rw [← hlen]
    refine ⟨fun i d h => ?_, fun i w h => ?_, fun i j li lj p hij h1 h2 h3 => ?_, eH, e.trans eH, Ex.refl F, fun a o h => .inl h, ?_⟩
    · cases i with
      | zero => cases h
      | succ i => exact base.dat i d (by simpa using h)
    · cases i with
      | zero =>
        simp at h
        subst h
        exact ⟨x, _, rfl, ex_none e hx, hx, upd_same, .ins rfl .nil⟩
      | succ i =>
        obtain ⟨p, o, a1, b1, c1, d1, r1⟩ := base.own i w (by simpa using h)
        rw [c1] at d1
        cases d1
    · cases i with
      | zero =>
        cases j with
        | zero => exact absurd rfl hij
        | succ j =>
          obtain ⟨p2, o, a1, b1, c1, d1, r1⟩ := base.own j lj (by simpa using h2)
          rw [c1] at d1
          cases d1
      | succ i =>
        obtain ⟨p2, o, a1, b1, c1, d1, r1⟩ := base.own i li (by simpa using h1)
        rw [c1] at d1
        cases d1
    · rw [List.length_cons, List.length_cons, base.len]
  refine hs E1 fun σ' F' H' E' f' => ?_
  obtain ⟨p, o, a1, b1, c1, d1, r1⟩ := E'.own 0 _ hG
  cases r1 with
  | ins hn1 hr1 =>
    exact q _ _ F' H' E'.ro b1 d1 hn1 hr1
/-! a method of an object that stays as it is -/
theorem lookup_none {f : Str} : ∀ {gs : List (Str × V)} {fs : List (Str × D)}, gs.map (fun p => p.1) = fs.map (fun p => p.1) → fs.lookup f = none → gs.lookup f = none
  | [], [], _, _ => rfl
  | [], _ :: _, h, _ => by cases h
  | _ :: _, [], h, _ => by cases h
  | (a, u) :: gs, (b, e) :: fs, hn, h => by
    have hab : a = b := by
      have := congrArg List.head? hn
      simpa using this
    have hn' : gs.map (fun p => p.1) = fs.map (fun p => p.1) := by
      have := congrArg List.tail hn
      simpa using this
    subst hab
    by_cases z : f == a
    · rw [List.lookup_cons, z] at h
      cases h
    · have z' : (f == a) = false := by simpa using z
      rw [List.lookup_cons, z'] at h ⊢
      exact lookup_none hn' h
theorem e_meth {C : Addr} {fs : List (Str × D)} {m : Str} {R : List D → D → Prop} {E : XK} {ta : TE} {tr : TA} {ds : List D} (h : EvD K ta G (.obj C fs)) (hm : fs.lookup m = none) (hr : EvS K tr G ds) (hR : R (.obj C fs :: ds) d) :
    EvD K (tMeth C m (spD K R) [] E ta tr) G d := .mk fun {H0 F0 F H σ} En Q q => h En _ fun v F1 H1 E1 f1 g1 n1 r1 => by
  have r1' := r1
  cases r1' with
  | obj h1 h2 h3 =>
    refine ⟨_, _, _, rfl, E1.ef _ _ h1, lookup_none h2 hm, hr E1 _ fun vs F2 H2 E2 f2 g2 n2 r2 => ?_⟩
    refine ⟨F2, .obj C fs :: ds, d, E2.ef, by rw [List.append_nil]; exact .cons (r1.mono f2) r2, hR, fun w F3 H3 ro r3 => ?_⟩
    exact q w F3 H3 (E2.grow ro.e1 ro.e0 ro.ef ro.nf) ((f1.trans f2).trans ro.e1) ((g1.trans g2).trans ro.e0) ((n1.trans n2 g1).trans ro.nf (g1.trans g2)) r3
/-! an owned list is shown for a moment: nothing of it stays -/
mutual
def noLst : D → Bool
  | .lst _ => false
  | .tup xs => noLsts xs
  | .dic _ => false
  | .obj _ fs => noLstF fs
  | .exc _ => false
  | .scr _ => false
  | _ => true
def noLsts : List D → Bool
  | [] => true
  | x :: xs => noLst x && noLsts xs
def noLstF : List (Str × D) → Bool
  | [] => true
  | (_, x) :: fs => noLst x && noLstF fs
end
theorem noLstF_map : ∀ fs : List (Str × D), noLstF fs = noLsts (fs.map fun p => p.2)
  | [] => by
    unfold noLstF
    rw [List.map_nil]
    unfold noLsts
    rfl
  | (s, x) :: fs => by
    unfold noLstF
    rw [List.map_cons]
    unfold noLsts
    rw [noLstF_map fs]
def hid (F : Hp) (p : Addr) : Hp := fun a => if a = p then none else F a
theorem hid_ne {F : Hp} {p a : Addr} (h : a ≠ p) : hid F p a = F a := if_neg h
mutual
theorem Rp.hid {F : Hp} {p : Addr} {xs : List V} (hp : F p = some (.lst xs)) : ∀ {v : V} {d : D}, Rp K F v d → noLst d = true → Rp K (hid F p) v d
  | _, _, .non, _ => .non
  | _, _, .bl b, _ => .bl b
  | _, _, .int i, _ => .int i
  | _, _, .str x, _ => .str x
  | _, .tup ds, .tup h r, q => .tup (by
      rw [hid_ne (fun z => by subst z; rw [hp] at h; cases h)]
      exact h) (RpA.hid hp r (by unfold noLst at q; exact q))
  | _, .lst _, .lst _ _, q => by unfold noLst at q; cases q
  | _, .dic _, .dic _ _ _, q => by unfold noLst at q; cases q
  | _, .obj C fs, .obj h1 h2 r, q => .obj (by
      rw [hid_ne (fun z => by subst z; rw [hp] at h1; cases h1)]
      exact h1) h2 (RpA.hid hp r (by unfold noLst at q; rw [noLstF_map] at q; exact q))
  | _, .exc _, .exc _, q => by unfold noLst at q; cases q
  | _, .ptr _, .ptr a, _ => .ptr a
  | _, .scr _, .scr _, q => by unfold noLst at q; cases q
theorem RpA.hid {F : Hp} {p : Addr} {xs : List V} (hp : F p = some (.lst xs)) : ∀ {vs : List V} {ds : List D}, RpA K F vs ds → noLsts ds = true → RpA K (hid F p) vs ds
  | _, _, .nil, _ => .nil
  | _, d :: ds, .cons r t, q => by
    unfold noLsts at q
    rw [Bool.and_eq_true] at q
    exact .cons (Rp.hid hp r q.1) (RpA.hid hp t q.2)
end
theorem En.freezeL {H0 F0 F H : Hp} {σ : L2.St} (E : Cy.En K H0 F0 F H σ G) {i : Nat} {l : List D} (h : G[i]? = some (.own (.lst l))) : ∃ p xs, F p = none ∧ H p = some (.lst xs) ∧ Cy.En K H0 F0 (upd F p (.lst xs)) H σ (G.set i (.dat (.lst l))) := by
  obtain ⟨p, o, a, b, c, d, r⟩ := E.own i _ h
  cases r with
  | lst r =>
    rename_i xs
    refine ⟨p, xs, b, d, ?_⟩
    have ef : Ex F (upd F p (.lst xs)) := Ex.new b
    have hl : i < G.length := (List.getElem?_eq_some_iff.mp h).1
    refine ⟨fun j e q => ?_, fun j m q => ?_, fun x y lx ly p'' hxy h1 h2 h3 => ?_, E.e0, fun z o q => ?_, E.e1.trans ef, fun z o q => ?_, by rw [List.length_set, E.len]⟩
    · by_cases hij : i = j
      · subst hij
        rw [List.getElem?_set_self hl] at q
        cases q
        exact ⟨_, a, .lst upd_same (r.mono ef)⟩
      · rw [List.getElem?_set_ne hij] at q
        obtain ⟨v, q1, q2⟩ := E.dat j e q
        exact ⟨v, q1, q2.mono ef⟩
    · by_cases hij : i = j
      · subst hij
        rw [List.getElem?_set_self hl] at q
        cases q
      · rw [List.getElem?_set_ne hij] at q
        obtain ⟨p2, xs2, a2, b2, c2, d2, r2⟩ := E.own j m q
        have hne : p2 ≠ p := fun z => by
          subst z
          exact E.dis i j _ m p2 hij h q a a2
        exact ⟨p2, xs2, a2, by rw [upd_ne hne]; exact b2, c2, d2, r2.mono ef⟩
    · have nx : i ≠ x := fun z => by
        subst z
        rw [List.getElem?_set_self hl] at h1
        cases h1
      have ny : i ≠ y := fun z => by
        subst z
        rw [List.getElem?_set_self hl] at h2
        cases h2
      rw [List.getElem?_set_ne nx] at h1
      rw [List.getElem?_set_ne ny] at h2
      exact E.dis x y lx ly p'' hxy h1 h2 h3
    · by_cases hz : z = p
      · subst hz
        rw [upd_same] at q
        cases q
        exact d
      · rw [upd_ne hz] at q
        exact E.ef z o q
    · by_cases hz : z = p
      · subst hz
        exact .inr c
      · rw [upd_ne hz] at q
        exact E.nf z o q
theorem e_look {i : Nat} {l : List D} (h : G[i]? = some (.own (.lst l))) (hv : EvD K te (G.set i (.dat (.lst l))) d) (hd : noLst d = true) : EvD K te G d := .mk fun {H0 F0 F H σ} E Q q => by
  obtain ⟨p, xs, hF, hH, E1⟩ := E.freezeL h
  refine hv E1 Q fun v F2 H2 E2 f2 g2 n2 r2 => ?_
  have hp2 : F2 p = some (.lst xs) := f2 _ _ upd_same
  have k1 : Ex F (hid F2 p) := fun a o y => by
    have hne : a ≠ p := fun z => by
      subst z
      rw [hF] at y
      cases y
    rw [hid_ne hne]
    exact f2 a o (by rw [upd_ne hne]; exact y)
  have k2 : Ex (hid F2 p) H2 := fun a o y => by
    by_cases hne : a = p
    · subst hne
      unfold hid at y
      rw [if_pos rfl] at y
      cases y
    · rw [hid_ne hne] at y
      exact E2.ef a o y
  have k3 : Nw F (hid F2 p) H := fun a o y => by
    by_cases hne : a = p
    · subst hne
      unfold hid at y
      rw [if_pos rfl] at y
      cases y
    · rw [hid_ne hne] at y
      rcases n2 a o y with z | z
      · rw [upd_ne hne] at z
        exact .inl z
      · exact .inr z
  exact q v (hid F2 p) H2 (E.grow k1 g2 k2 k3) k1 g2 k3 (Rp.hid hp2 r2 hd)
/-- x.append(y.pop(j)) -/
theorem st_appPop {i k : Nat} {l m : List D} {j : Nat} (hik : i ≠ k) (h1 : G[i]? = some (.own (.lst l))) (h2 : G[k]? = some (.own (.lst m))) (he : EvD K tx G (.int (j : Int))) (hj : m[j]? = some d) (hz : l.length < 100000) (hm : m.length < 100000) :
    StD K (tDrop (tBM K "list" rAppend (tVar i) (tCons (tBM K "list" rPopAt (tVar k) (tCons tx tNil)) tNil))) G (.nx ((G.set k (.own (.lst (m.eraseIdx j)))).set i (.own (.lst (l ++ [d]))))) := .mk fun {H0 F0 F H σ E} En p => by
  unfold tDrop tBM
  refine e_own h1 En fun q xs hq hH hF hr => ⟨Or.inl ⟨rfl, xs, sq_of hH⟩, ?_⟩
  unfold tCons
  refine e_own h2 En fun q2 ys hq2 hH2 hF2 hr2 => ⟨Or.inl ⟨rfl, ys, sq_of hH2⟩, ?_⟩
  refine he En _ fun w F1 H1 E1 f1 g1 n1 r1 => ?_
  cases r1
  show rPopAt _ _ _ _
  obtain ⟨y, hy, ry⟩ := hr2.get hj
  have hjl : j < ys.length := (List.getElem?_eq_some_iff.mp hy).1
  have hlen := hr2.length
  have hne : q ≠ q2 := fun z => by
    subst z
    exact En.dis i k _ _ q hik h1 h2 hq hq2
  have hseq : seqIndex? (j : Int) ys.length = some j := by
    unfold seqIndex?
    simp
    omega
  refine ⟨q2, ys, (j : Int), j, y, rfl, rfl, g1 _ _ hH2, by omega, by omega, hseq, hy, ?_⟩
  have E2 := E1.mut h2 hq2 (.lst ((hr2.mono f1).erase j))
  have h1' : (G.set k (.own (.lst (m.eraseIdx j))))[i]? = some (.own (.lst l)) := by
    rw [List.getElem?_set_ne (fun z => hik z.symm)]
    exact h1
  refine ⟨q, xs, y, rfl, rfl, by rw [upd_ne hne]; exact g1 _ _ hH, sz_lt (by rw [hr.length]; exact hz), ?_⟩
  exact p σ F1 _ (E2.mut h1' hq (.lst ((hr.mono f1).app (.cons (ry.mono f1) .nil)))) f1
/-- tuple(list) -/
def rTupOf (K : PySem.W.Frag) : List V → Hp → VK → Prop := fun xs H Q => ∃ p ys, xs = [.ref p] ∧ ((SqL K H p ys ∧ ∀ l, H l = none → Q (.ref l) (upd H l (.tup ys))) ∨ (SqT K H p ys ∧ Q (.ref p) H))
theorem call_gTuple {X : Cx} : CallR X (.type "tuple") (rTupOf X.K) := call_tuple_of
theorem n_tupL {l : List D} : OpN K (rTupOf K) [.lst l] (.tup l) := .mk fun {F H vs} e r Q q => by
  obtain ⟨v, rfl, r1⟩ := rpa1 r
  cases r1 with
  | lst h1 s1 =>
    rename_i xs
    refine ⟨_, _, rfl, Or.inl ⟨sq_of (e _ _ h1), fun p hp => ?_⟩⟩
    have ef : Ex F (upd F p (.tup xs)) := Ex.new (ex_none e hp)
    exact q _ (upd F p (.tup xs)) _ ef (ex_upd_both e) (Ex.new hp) (nw_upd hp (Nw.refl _ _)) (.tup upd_same (s1.mono ef))
/-- list(range(a, b)) -/
theorem rg_1 {n : Int} (h : EvD K ta G (.int n)) : RgD K (tRg1 ta) G 0 n := .mk fun {H0 F0 F H σ} E Q q => h E _ fun v F1 H1 E1 f1 g1 n1 r1 => by
  cases r1
  exact ⟨n, rfl, q F1 H1 E1 f1 g1 n1⟩
theorem rg_2 {a b : Int} (h1 : EvD K ta G (.int a)) (h2 : EvD K tb G (.int b)) : RgD K (tRg2 ta tb) G a b := .mk fun {H0 F0 F H σ} E Q q => h1 E _ fun v F1 H1 E1 f1 g1 n1 r1 => h2 E1 _ fun w F2 H2 E2 f2 g2 n2 r2 => by
  cases r1
  cases r2
  exact ⟨a, b, rfl, rfl, q F2 H2 E2 (f1.trans f2) (g1.trans g2) (n1.trans n2 g1)⟩
theorem o_listRg {tr : L2.St → Hp → (Int → Int → Hp → Prop) → Prop} {a b : Int} (h : RgD K tr G a b) (hn : RgOk a b) : EvO K (tLstRg tr) G (rngD a (b - a).toNat) := .mk fun {H0 F0 F H σ} E Q q => h E _ fun F1 H1 E1 f1 g1 n1 => ⟨hn, fun p hp => by
  have hr : RpA K F1 (rgV a b) (rngD a (b - a).toNat) := by
    unfold rgV rngD
    have : ∀ l : List Nat, RpA K F1 (l.map fun (i : Nat) => V.int (a + (i : Nat))) (l.map fun (i : Nat) => D.int (a + (i : Int))) := by
      intro l
      induction l with
      | nil => exact .nil
      | cons x l ih => exact .cons (.int _) ih
    exact this _
  exact q p _ F1 _ (E1.grow (Ex.refl _) (Ex.new hp) (E1.ef.trans (Ex.new hp)) (Nw.refl _ _)) f1 (g1.trans (Ex.new hp)) n1 (ex_none g1 hp) (ex_none E1.ef hp) upd_same hr⟩
/-- xs[::-1] -/
theorem o_revL {l : List D} (h : EvD K te G (.lst l)) : EvO K (tRevL K te) G l.reverse := .mk fun {H0 F0 F H σ} E Q q => h E _ fun v F1 H1 E1 f1 g1 n1 r1 => by
  cases r1 with
  | lst h1 s1 => exact ⟨_, _, rfl, sq_of (E1.ef _ _ h1), fun p hp => q p _ F1 _ (E1.grow (Ex.refl _) (Ex.new hp) (E1.ef.trans (Ex.new hp)) (Nw.refl _ _)) f1 (g1.trans (Ex.new hp)) n1 (ex_none g1 hp) (ex_none E1.ef hp) upd_same s1.rev⟩
theorem n_intB {x : Bool} : OpN K gInt [.bl x] (.int (if x then 1 else 0)) := opn_l (op1_v fun {F H vs} e r => by
  obtain ⟨v, rfl, r1⟩ := rpa1 r
  cases r1
  exact ⟨.int _, .int _, fun Q q => Or.inr ⟨x, rfl, q⟩⟩)
/-- two lists handed back in a tuple -/
theorem st_ret2 {i j : Nat} {l m : List D} (hij : i ≠ j) (h1 : G[i]? = some (.own (.lst l))) (h2 : G[j]? = some (.own (.lst m))) : StD K (tRet (tTup (tCons (tVar i) (tCons (tVar j) tNil)))) G (.ro2 l m) := .mk fun {H0 F0 F H σ E} En p => by
  obtain ⟨q1, o1, a1, b1, c1, d1, r1⟩ := En.own i _ h1
  obtain ⟨q2, o2, a2, b2, c2, d2, r2⟩ := En.own j _ h2
  cases r1 with
  | lst r1 =>
    cases r2 with
    | lst r2 =>
      have hne : q1 ≠ q2 := fun z => by
        subst z
        exact En.dis i j _ _ q1 hij h1 h2 a1 a2
      refine ⟨_, a1, _, a2, (by show 2 ≤ sizeLine; decide), fun t ht => ?_⟩
      have en : Ex H (upd H t (.tup [.ref q1, .ref q2])) := Ex.new ht
      exact p t q1 _ q2 _ F _ ⟨En.e0.trans en, En.ef.trans en, En.e1, En.nf⟩ upd_same hne c1 b1 (en _ _ d1) r1 c2 b2 (en _ _ d2) r2
def spO2 (K : PySem.W.Frag) (R : List D → List D → List D → Prop) : Sp := fun vs H Q _ => ∃ F ds l m, Ex F H ∧ RpA K F vs ds ∧ R ds l m ∧ ∀ t p xs q ys F' H', Ro H F F' H' → H' t = some (.tup [.ref p, .ref q]) → p ≠ q → H p = none → F' p = none → H' p = some (.lst xs) → RpA K F' xs l → H q = none → F' q = none → H' q = some (.lst ys) → RpA K F' ys m → Q (.ref t) H'
theorem spO2_len {R : List D → List D → List D → Prop} {vs : List V} {H : Hp} {Q : VK} {E : XK} {n : Nat} (hR : ∀ ds l m, R ds l m → ds.length = n) (h : spO2 K R vs H Q E) : vs.length = n := by
  obtain ⟨F, ds, l, m, e, r, h1, _⟩ := h
  rw [r.length]
  exact hR ds l m h1
theorem body_O2 {N : List Str} {R : List D → List D → List D → Prop} {vs : List V} {H : Hp} {Q : VK} {E : XK} {t : TS} (h : spO2 K R vs H Q E) (hn : ∀ ds l m, R ds l m → ds.length ≤ N.length)
    (hb : ∀ ds l m, R ds l m → StD K t (args N.length ds) (.ro2 l m)) : t { nx := fun _ H' => Q .non H', rt := Q } (start N vs) H := by
  obtain ⟨F, ds, l, m, e, r, hR, q⟩ := h
  exact hb ds l m hR (start_en e r (hn ds l m hR)) q
/-- x, y = f(..) of such -/
theorem st_asg2 {i j : Nat} {R : List D → List D → List D → Prop} {E : XK} {ta : TA} {ds l m : List D} (hij : i ≠ j) (h : EvS K ta G ds) (hR : R ds l m) : StD K (tAsg (tCall (spO2 K R) [] E ta) (gTup K 2 (gCons (gName i) (gCons (gName j) gNil)))) G (.nx ((G.set i (.own (.lst l))).set j (.own (.lst m)))) := .mk fun {H0 F0 F H σ Ed} En p =>
  h En _ fun vs F1 H1 E1 f1 g1 n1 r1 => by
    refine ⟨F1, ds, l, m, E1.ef, by rw [List.append_nil]; exact r1, hR, fun t p1 xs q1 ys F2 H2 ro ht hne hp0 hpF hpH rx hq0 hqF hqH ry => ?_⟩
    have E2 := E1.grow ro.e1 ro.e0 ro.ef ro.nf
    refine ⟨t, _, rfl, Or.inl (Or.inl ht), rfl, _, _, rfl, _, _, rfl, rfl, ?_⟩
    have nslot : ∀ (a : Addr), H1 a = none → ∀ (k : Nat) (lk : Ow), G[k]? = some (.own lk) → σ[k]? ≠ some (some (.ref a)) := fun a ha k lk hk hs => by
      obtain ⟨p2, o2, a2, b2, c2, d2, r2⟩ := E1.own k lk hk
      rw [a2] at hs
      cases hs
      rw [ha] at d2
      cases d2
    have E3 := E2.setO (i := i) hpF (ex_none E1.e0 hp0) hpH (.lst rx) (fun k lk hk _ => nslot p1 hp0 k lk hk)
    have E4 := E3.setO (i := j) hqF (ex_none E1.e0 hq0) hqH (.lst ry) (fun k lk hk hjk => by
      by_cases hik : i = k
      · subst hik
        intro hs
        have hl : i < σ.length := by
          have := (List.getElem?_eq_some_iff.mp hs).1
          rw [List.length_set] at this
          exact this
        rw [List.getElem?_set_self hl] at hs
        cases hs
        exact hne rfl
      · rw [List.getElem?_set_ne hik] at hk ⊢
        exact nslot q1 hq0 k lk hk)
    exact p _ F2 H2 E4 (f1.trans ro.e1)
end
/-! comparing with a script -/
theorem ok_scr {ns : List Int} : okEq (.scr ns) = true := by
  have hall : ∀ l : List Int, PyData.canLayAll0 (l.map PyData.int) = true ∧ PyData.depthAll (l.map PyData.int) = 0 := by
    intro l
    induction l with
    | nil => exact ⟨by unfold PyData.canLayAll0; rfl, by unfold PyData.depthAll; rfl⟩
    | cons x l ih =>
      refine ⟨?_, ?_⟩
      · rw [List.map_cons]
        unfold PyData.canLayAll0
        rw [ih.1]
        unfold PyData.canLay0
        rfl
      · rw [List.map_cons]
        unfold PyData.depthAll
        rw [ih.2]
        unfold PyData.depth
        rfl
  have h1 : plain (.scr ns) = true := by unfold plain; rfl
  have h2 : SeqAt.shaped (toP (.scr ns)) = true := by
    unfold toP SeqAt.shaped PyData.canLay0 PyData.depth
    rw [(hall ns).1, (hall ns).2]
    decide
  unfold okEq
  rw [h1, h2]
  rfl
theorem ok_nil : okEq (.lst []) = true := ok_eq (n := 1) (by unfold okD; rfl) (by decide)
theorem eqD_scr (ns : List Int) : eqD (.scr ns) (.lst []) = ns.isEmpty := by
  unfold eqD
  cases ns with
  | nil => simp only [toP, toPs, List.map_nil, PyData.eqv, PyData.eqvAll, List.isEmpty_nil]
  | cons x r => simp only [toP, toPs, List.map_cons, PyData.eqv, PyData.eqvAll, List.isEmpty_cons]
/-! equal data -/
mutual
theorem eqv_self : ∀ (n : Nat) (d : D), okD n d = true → PyData.eqv (toP d) (toP d) = true
  | _, .non, _ => by simp only [toP, PyData.eqv]
  | _, .bl b, _ => by simp only [toP, PyData.eqv, beq_self_eq_true]
  | _, .int i, _ => by simp only [toP, PyData.eqv, beq_self_eq_true]
  | _, .str s, _ => by simp only [toP, PyData.eqv]; exact beq_iff_eq.mpr rfl
  | 0, .lst _, h => by unfold okD at h; cases h
  | 0, .tup _, h => by unfold okD at h; cases h
  | n + 1, .lst xs, h => by
    simp only [toP, PyData.eqv]
    exact eqvs_self n xs (by unfold okD at h; exact h)
  | n + 1, .tup xs, h => by
    simp only [toP, PyData.eqv]
    exact eqvs_self n xs (by unfold okD at h; exact h)
  | 0, .dic _, h => by unfold okD at h; cases h
  | n + 1, .dic _, h => by unfold okD at h; cases h
  | 0, .obj _ _, h => by unfold okD at h; cases h
  | n + 1, .obj _ _, h => by unfold okD at h; cases h
  | 0, .exc _, h => by unfold okD at h; cases h
  | n + 1, .exc _, h => by unfold okD at h; cases h
  | 0, .ptr _, h => by unfold okD at h; cases h
  | n + 1, .ptr _, h => by unfold okD at h; cases h
  | 0, .scr _, h => by unfold okD at h; cases h
  | n + 1, .scr _, h => by unfold okD at h; cases h
theorem eqvs_self : ∀ (n : Nat) (xs : List D), xs.all (okD n) = true → PyData.eqvAll (toPs xs) (toPs xs) = true
  | _, [], _ => by simp only [toPs, PyData.eqvAll]
  | n, x :: xs, h => by
    rw [List.all_cons, Bool.and_eq_true] at h
    simp only [toPs, PyData.eqvAll]
    rw [eqv_self n x h.1, eqvs_self n xs h.2]
    rfl
end
theorem eqD_self {n : Nat} {d : D} (h : okD n d = true) : eqD d d = true := eqv_self n d h
/-- what is equal, compared: x == y, x != y -/
theorem d_same {K : PySem.W.Frag} {n : Nat} {d : D} (h : okD n d = true) (hn : n ≤ 64) : Op2 K (gEq K) d d (.bl true) := by
  have := d_eqD (K := K) (ok_eq h hn) (ok_eq h hn)
  rw [eqD_self h] at this
  exact this
theorem d_sameN {K : PySem.W.Frag} {n : Nat} {d : D} (h : okD n d = true) (hn : n ≤ 64) : Op2 K (gNe K) d d (.bl false) := by
  have := d_neD (K := K) (ok_eq h hn) (ok_eq h hn)
  rw [eqD_self h] at this
  exact this
theorem ok_ints {n : Nat} (ns : List Int) : okD (n + 1) (.lst (ns.map D.int)) = true := by
  unfold okD
  refine List.all_eq_true.mpr fun d hd => ?_
  obtain ⟨i, _, rfl⟩ := List.mem_map.mp hd
  cases n <;> (unfold okD; rfl)
theorem ok_bls {n : Nat} (ns : List Bool) : okD (n + 1) (.lst (ns.map D.bl)) = true := by
  unfold okD
  refine List.all_eq_true.mpr fun d hd => ?_
  obtain ⟨i, _, rfl⟩ := List.mem_map.mp hd
  cases n <;> (unfold okD; rfl)
end Cy

set_option Elab.async false
set_option linter.all false
set_option maxRecDepth 100000
set_option maxHeartbeats 4000000
/-! for a, b, c in zip(xs, ys, t): two lists and a tuple -/
namespace Cy
open PySem PySem.Spec PyProof.Rows PySem.W L2 Evl
/-- what is walked: as the three stand at each turn -/
def Itz3 (K : PySem.W.Frag) (a b c : Addr) : It :=
  ⟨fun i H => ∃ (xs ys zs : List V) (x y u : V), (SqL K H a xs ∧ SqL K H b ys ∧ SqT K H c zs) ∧ xs[i]? = some x ∧ ys[i]? = some y ∧ zs[i]? = some u,
    fun i H v H' => ∃ T x y u, v = .ref T ∧ H T = none ∧ H' = upd H T (.tup [x, y, u]) ∧ (∀ xs, SqL K H a xs → xs[i]? = some x) ∧ (∀ ys, SqL K H b ys → ys[i]? = some y) ∧ ∀ zs, SqT K H c zs → zs[i]? = some u,
    fun i H => ∃ xs ys zs : List V, (SqL K H a xs ∧ SqL K H b ys ∧ SqT K H c zs) ∧ (i ≤ xs.length ∧ i ≤ ys.length ∧ i ≤ zs.length) ∧ (i = xs.length ∨ i = ys.length ∨ i = zs.length)⟩
theorem turn_zip3 {P : Program} {w : World} {K : PySem.W.Frag} {elts : List Expr} {kk : Nat} {tpos : Pos} {a b c z TI TO i1 i2 i3 : Addr} (S : ZipSep3 z TI TO i1 i2 i3 [i1, a] [i2, b] [i3, c]) (ha : a ≠ i1) (hb : b ≠ i2) (hc3 : c ≠ i3) :
    Turn P w K (.Tuple elts kk tpos) (Itz3 K a b c) [z, TI, TO, i1, i2, i3] z (fun i h => IsZip h z TI TO .none ∧ IsTupOf3 h TI (.ref i1) (.ref i2) (.ref i3) ∧ (∃ x y u, IsTupOf3 h TO x y u) ∧ h.IsListIter i1 a i ∧ h.IsListIter i2 b i ∧ h.IsTupleIter i3 c i) where
  mem := by simp
  obj := fun i h kst d hd => by
    obtain ⟨cz, cI, ⟨x, y, u, cO⟩, ⟨b1, e1, _, w1⟩, ⟨b2, e2, _, w2⟩, ⟨b3, e3, _, w3⟩⟩ := kst
    have ee : d = z ∨ d = TI ∨ d = TO ∨ d = i1 ∨ d = i2 ∨ d = i3 := by simpa using hd
    rcases ee with qq | qq | qq | qq | qq | qq
    · rw [qq]; exact ⟨_, cz, fun v qq => nomatch qq⟩
    · rw [qq]; exact ⟨_, cI, fun v qq => nomatch qq⟩
    · rw [qq]; exact ⟨_, cO, fun v qq => nomatch qq⟩
    · rw [qq]; exact ⟨b1, e1, fun v qq => by rw [w1] at qq; cases qq⟩
    · rw [qq]; exact ⟨b2, e2, fun v qq => by rw [w2] at qq; cases qq⟩
    · rw [qq]; exact ⟨b3, e3, fun v qq => by rw [w3] at qq; cases qq⟩
  keep := fun i h h' kst k => by
    obtain ⟨cz, cI, ⟨x, y, u, cO⟩, t1, t2, t3⟩ := kst
    exact ⟨k z (by simp) _ cz, k TI (by simp) _ cI, ⟨x, y, u, k TO (by simp) _ cO⟩, t1.at fun o qq => k i1 (by simp) o qq, t2.at fun o qq => k i2 (by simp) o qq, t3.at fun o qq => k i3 (by simp) o qq⟩
  item := by
    intro X eP ew eK hc i pn s σ H E I fr kst hg
    subst eP ew eK
    obtain ⟨cz, cI, ⟨x0, y0, u0, cO⟩, t1, t2, t3⟩ := kst
    obtain ⟨xs, ys, zs, x, y, u, ⟨sx, sy, sz⟩, hx, hy, hu⟩ := hg
    obtain ⟨us1, vv1, p, _⟩ := I.list sx
    obtain ⟨us2, vv2, p2, _⟩ := I.list sy
    obtain ⟨us3, vv3, p3, _⟩ := I.tuple sz
    obtain ⟨v1, hv1, rr1⟩ := vv1.get hx
    obtain ⟨v2, hv2, rr2⟩ := vv2.get hy
    obtain ⟨v3, hv3, rr3⟩ := vv3.get hu
    have zl : z < s.heap.objs.size := Heap.lt_size cz
    have hh : X.A.in1.handled = none := I.ok.hd hc
    have D1 := Draws.list (prog := X.prog) (w := X.w) (A := X.A.in1) hh i1 a ha us1.toArray
    have D2 := Draws.list (prog := X.prog) (w := X.w) (A := X.A.in1) hh i2 b hb us2.toArray
    have D3 := Draws.tuple (prog := X.prog) (w := X.w) (A := X.A.in1) hh i3 c hc3 us3.toArray
    have m1 : us1.toArray[i]? = some v1 := by simpa using hv1
    have m2 : us2.toArray[i]? = some v2 := by simpa using hv2
    have m3 : us3.toArray[i]? = some v3 := by simpa using hv3
    refine wpAny_pyNext_zipD3_item S D1 D2 D3 cz cI cO ⟨t1, p.isList⟩ ⟨t2, p2.isList⟩ ⟨t3, p3⟩ (Array.getElem?_eq_some_iff.mp m1).1 (Array.getElem?_eq_some_iff.mp m2).1 (Array.getElem?_eq_some_iff.mp m3).1 fun x1 x2 x3 h' tk q1 q2 q3 z' TO' s1 s2 s3 hT hsz hk => ?_
    rw [m1] at q1
    rw [m2] at q2
    rw [m3] at q3
    cases q1
    cases q2
    cases q3
    refine ⟨_, rfl, wpAny_letOwnedTupleGo_zip (s := { s with heap := h', toks := tk }) z' fun h'' z'' sb => ?_⟩
    have hT2 : h''.get? s.heap.objs.size = some { cls := .type "tuple", data := .seq #[v1, v2, v3] } := (sb.2 _ (Nat.ne_of_gt zl)).trans hT
    have new : ObjOk X.prog X.w (upd H s.heap.objs.size (.tup [x, y, u])) h'' s.heap.objs.size (.tup [x, y, u]) :=
      ⟨by show 3 ≤ sizeLine; decide, [v1, v2, v3], .cons rr1 (.cons rr2 (.cons rr3 .nil)), ⟨_, hT2, rfl, _, rfl⟩⟩
    have J1 : Inv X pn σ (upd H s.heap.objs.size (.tup [x, y, u])) { s with heap := h'', toks := tk } :=
      I.turnedNew (t' := tk) (ch := [z, TI, TO, i1, i2, i3]) (fun d o hd qq => (sb.2 d (fun q' => hd (by simp [q']))).trans (hk d o (fun q' => hd (by simp [q'])) (fun q' => hd (by simp [q'])) (fun q' => hd (by simp [q'])) (fun q' => hd (by simp [q'])) (fun q' => hd (by simp [q'])) qq)) fr (Nat.le_refl _) new
    have f1 : z ≠ i1 := fun e => S.zf1 (by rw [e]; exact S.mem1)
    have f2 : z ≠ i2 := fun e => S.zf2 (by rw [e]; exact S.mem2)
    have f3 : z ≠ i3 := fun e => S.zf3 (by rw [e]; exact S.mem3)
    refine ⟨.ref s.heap.objs.size, _, J1, rfl, ⟨_, x, y, u, rfl, I.hok.fresh (Nat.le_refl _), rfl, fun l hl => by rw [I.list_inj hl sx]; exact hx, fun l hl => by rw [I.list_inj hl sy]; exact hy, fun l hl => by rw [I.tuple_inj hl sz]; exact hu⟩, ⟨z'', ?_, ⟨v1, v2, v3, ?_⟩, ?_, ?_, ?_⟩, fun d hdm => ?_⟩
    · exact (sb.2 _ S.TIz).trans (hk _ _ S.TIz S.TITO S.TIi1 S.TIi2 S.TIi3 cI)
    · exact (sb.2 _ S.TOz).trans TO'
    · exact s1.1.at fun o qq => (sb.2 _ f1.symm).trans qq
    · exact s2.1.at fun o qq => (sb.2 _ f2.symm).trans qq
    · exact s3.1.at fun o qq => (sb.2 _ f3.symm).trans qq
    · have dl : d < s.heap.objs.size := by
        have ee : d = z ∨ d = TI ∨ d = TO ∨ d = i1 ∨ d = i2 ∨ d = i3 := by simpa using hdm
        rcases ee with qq | qq | qq | qq | qq | qq
        · rw [qq]; exact zl
        · rw [qq]; exact Heap.lt_size cI
        · rw [qq]; exact Heap.lt_size cO
        · rw [qq]; obtain ⟨_, e1, _⟩ := t1; exact Heap.lt_size e1
        · rw [qq]; obtain ⟨_, e2, _⟩ := t2; exact Heap.lt_size e2
        · rw [qq]; obtain ⟨_, e3, _⟩ := t3; exact Heap.lt_size e3
      rw [upd_ne (Nat.ne_of_lt dl)]
      exact (fr d hdm).1
  done := by
    intro X eP ew eK hc i pn s σ H E I fr kst hg
    subst eP ew eK
    obtain ⟨cz, cI, ⟨x0, y0, u0, cO⟩, t1, t2, t3⟩ := kst
    obtain ⟨xs, ys, zs, ⟨sx, sy, sz⟩, ⟨g1, g2, g3⟩, hend⟩ := hg
    obtain ⟨us1, vv1, p, _⟩ := I.list sx
    obtain ⟨us2, vv2, p2, _⟩ := I.list sy
    obtain ⟨us3, vv3, p3, _⟩ := I.tuple sz
    have l1 := vv1.length
    have l2 := vv2.length
    have l3 := vv3.length
    have hh : X.A.in1.handled = none := I.ok.hd hc
    have D1 := Draws.list (prog := X.prog) (w := X.w) (A := X.A.in1) hh i1 a ha us1.toArray
    have D2 := Draws.list (prog := X.prog) (w := X.w) (A := X.A.in1) hh i2 b hb us2.toArray
    have D3 := Draws.tuple (prog := X.prog) (w := X.w) (A := X.A.in1) hh i3 c hc3 us3.toArray
    exact wpAny_pyNext_zipD3_end S D1 D2 D3 cz cI cO ⟨t1, p.isList⟩ ⟨t2, p2.isList⟩ ⟨t3, p3⟩ (by simp; omega) (by simp; omega) (by simp; omega) (by simp; omega) fun h' tk hk => ⟨rfl, I.turnedL (t' := tk) (ch := [z, TI, TO, i1, i2, i3]) (fun d o hd qq =>
      hk d o (fun q' => hd (by simp [q'])) (fun q' => hd (by simp [q'])) (fun q' => hd (by simp [q'])) (fun q' => hd (by simp [q'])) (fun q' => hd (by simp [q'])) qq) fr⟩
  self := fun A i s Q E kst h => wpAny_pyIter_zip kst.1 h
def iZip3 (K : PySem.W.Frag) (ta : TA) : TI := fun σ H R => ta σ H fun vs H1 => ∃ a b c xs ys zs, vs = [.ref a, .ref b, .ref c] ∧ SqL K H1 a xs ∧ SqL K H1 b ys ∧ SqT K H1 c zs ∧ R (Itz3 K a b c) H1
theorem pi_zip3 {X : Cx} {e e2 e3 : Expr} {ta : TA} {p pos tpos : Pos} {elts : List Expr} {kk : Nat} (hg : Gl X "zip") (hm : X.mg "zip" = none) (ha : PA X [e, e2, e3] ta)
    (hs : starEach [e, e2, e3] X.env = (false, eval e X.env) :: starEach [e2, e3] X.env := by rfl) (hpl : (backTo pos (starEach [e2, e3] X.env)).any (·.1) = false := by rfl) :
    PI X (.Tuple elts kk tpos) (.Call (.Name "zip" p) [e, e2, e3] [] pos) (iZip3 X.K ta) := by
  refine ⟨fun pn s σ H R I h => ?_⟩
  refine Call_ (ld_blt I hg hm PyProof.Rows.boot_zip (PyProof.Rows.callWith_type1 (thn (ha.run pos pn s σ H _ I h) fun us s1 ⟨vs, H1, J1, r1, q1⟩ => ?_) hs hpl))
  obtain ⟨a, b, c, xs, ys, zs, ex, sx, sy, sz, qq⟩ := q1
  subst ex
  cases r1 with
  | cons r rr =>
    cases rr with
    | cons r' rr =>
      cases rr with
      | cons r'' rr =>
        cases rr
        cases r
        cases r'
        cases r''
        obtain ⟨us1, vv1, p1, _⟩ := J1.list sx
        obtain ⟨us2, vv2, p2, _⟩ := J1.list sy
        obtain ⟨us3, vv3, p3, _⟩ := J1.tuple sz
        have la1 : a < s1.heap.objs.size := p1.lt
        have lb1 : b < s1.heap.objs.size := p2.lt
        have lc1 : c < s1.heap.objs.size := by
          obtain ⟨o, ho, _⟩ := (show s1.heap.IsTuple c us3.toArray from p3)
          exact Heap.lt_size ho
        refine zip_begins3 (begins_list a us1.toArray) (begins_list b us2.toArray) (begins_tuple c us3.toArray) p1.isList p2.isList (show s1.heap.IsTuple c us3.toArray from p3) fun h' cz cI cO g1 g2 g3 hsz hk => wpAny_pyIter_zip cz ?_
        have J2 : Inv X pn σ H1 { s1 with heap := h' } := J1.kept (t' := s1.toks) hk
        refine ⟨s1.heap.objs.size + 5, [s1.heap.objs.size + 5, s1.heap.objs.size + 3, s1.heap.objs.size + 4, s1.heap.objs.size, s1.heap.objs.size + 1, s1.heap.objs.size + 2], _, _, H1, rfl, J2, turn_zip3 (zip_sep3 (fp1 := [a]) (fp2 := [b]) (fp3 := [c]) (fun x hx => by rw [List.mem_singleton.mp hx]; exact la1) (fun x hx => by rw [List.mem_singleton.mp hx]; exact lb1) (fun x hx => by rw [List.mem_singleton.mp hx]; exact lc1)) (Nat.ne_of_lt la1) (Nat.ne_of_lt (Nat.lt_succ_of_lt lb1)) (Nat.ne_of_lt (Nat.lt_succ_of_lt (Nat.lt_succ_of_lt lc1))), ⟨cz, cI, ⟨_, _, _, cO⟩, ⟨_, g1, rfl, rfl⟩, ⟨_, g2, rfl, rfl⟩, ⟨_, g3, rfl, rfl⟩⟩, fun d hdm => ?_, qq⟩
        have nd : s1.heap.objs.size ≤ d := by
          have ee : d = s1.heap.objs.size + 5 ∨ d = s1.heap.objs.size + 3 ∨ d = s1.heap.objs.size + 4 ∨ d = s1.heap.objs.size ∨ d = s1.heap.objs.size + 1 ∨ d = s1.heap.objs.size + 2 := by simpa using hdm
          rcases ee with rfl | rfl | rfl | rfl | rfl | rfl <;> (show (_ : Nat) ≤ _; omega)
        exact J1.fpOk nd (J1.hok.fresh nd)

section
variable {K : PySem.W.Frag} {ta : TA} {G : List Sl} {l : List D}
def zipD3 (l m n : List D) : List D := (List.range (min (min l.length m.length) n.length)).map fun i => D.tup [l.getD i .non, m.getD i .non, n.getD i .non]
theorem zipD3_len {l m n : List D} : (zipD3 l m n).length = min (min l.length m.length) n.length := by
  unfold zipD3
  rw [List.length_map, List.length_range]
theorem zipD3_at {l m n : List D} {i : Nat} (hi : i < l.length) (hj : i < m.length) (hk : i < n.length) : (zipD3 l m n)[i]? = some (D.tup [l[i], m[i], n[i]]) := by
  unfold zipD3
  rw [List.getElem?_map, List.getElem?_range (by omega)]
  show some (D.tup [l.getD i .non, m.getD i .non, n.getD i .non]) = _
  simp only [List.getD_eq_getElem?_getD, List.getElem?_eq_getElem hi, List.getElem?_eq_getElem hj, List.getElem?_eq_getElem hk, Option.getD_some]
theorem it_zip3 {m n : List D} (h : EvS K ta G [.lst l, .lst m, .tup n]) : ItD K (iZip3 K ta) G (zipD3 l m n) := .mk fun {H0 F0 F H σ} En R q => h En _ fun vs F1 H1 E1 f1 g1 n1 r1 => by
  cases r1 with
  | cons a b =>
    cases b with
    | cons b c =>
      cases c with
      | cons c d =>
        cases d
        cases a with
        | @lst pa xs _ ha rs =>
          cases b with
          | @lst pb ys _ hb rt =>
            cases c with
            | @tup pc zs _ hc ru =>
              refine ⟨_, _, _, _, _, _, rfl, sq_of (E1.ef _ _ ha), sq_of (E1.ef _ _ hb), st_of (E1.ef _ _ hc), q _ F1 H1 E1 f1 g1 n1 ?_⟩
              have ln1 := rs.length
              have ln2 := rt.length
              have ln3 := ru.length
              refine ⟨fun H => SqL K H pa xs ∧ SqL K H pb ys ∧ SqT K H pc zs, fun i H v H' => ∃ T x y u, v = .ref T ∧ H T = none ∧ H' = upd H T (.tup [x, y, u]) ∧ xs[i]? = some x ∧ ys[i]? = some y ∧ zs[i]? = some u, ⟨fun i H hi hg => ?_, fun H hg => ?_, fun i H x H' hi hg y => ?_⟩, fun H e => ⟨sq_of (e _ _ ha), sq_of (e _ _ hb), st_of (e _ _ hc)⟩, fun i H x' H' F1 e1 e2 y => ?_⟩
              · rw [zipD3_len] at hi
                exact ⟨xs, ys, zs, _, _, _, hg, List.getElem?_eq_getElem (by omega), List.getElem?_eq_getElem (by omega), List.getElem?_eq_getElem (by omega)⟩
              · rw [zipD3_len]
                exact ⟨xs, ys, zs, hg, ⟨by omega, by omega, by omega⟩, by omega⟩
              · obtain ⟨T, u, w, r, rfl, hT, rfl, y2, y3, y4⟩ := y
                exact ⟨T, u, w, r, rfl, hT, rfl, y2 xs hg.1, y3 ys hg.2.1, y4 zs hg.2.2⟩
              · obtain ⟨T, x, y, z, rfl, hT, rfl, hx, hy, hz⟩ := y
                have hi : i < l.length := by
                  rw [← rs.length]
                  exact (List.getElem?_eq_some_iff.mp hx).1
                have hj : i < m.length := by
                  rw [← rt.length]
                  exact (List.getElem?_eq_some_iff.mp hy).1
                have hk : i < n.length := by
                  rw [← ru.length]
                  exact (List.getElem?_eq_some_iff.mp hz).1
                obtain ⟨v, h1, h2⟩ := rs.get (List.getElem?_eq_getElem hi)
                rw [hx] at h1
                cases h1
                obtain ⟨w, h3, h4⟩ := rt.get (List.getElem?_eq_getElem hj)
                rw [hy] at h3
                cases h3
                obtain ⟨w, h5, h6⟩ := ru.get (List.getElem?_eq_getElem hk)
                rw [hz] at h5
                cases h5
                have ef : Ex F1 (upd F1 T (.tup [x, y, z])) := Ex.new (ex_none e2 hT)
                exact ⟨upd F1 T (.tup [x, y, z]), .tup [l[i], m[i], n[i]], ef, Ex.new hT, ex_upd_both e2, nw_upd hT (Nw.refl _ _), zipD3_at hi hj hk, .tup upd_same (.cons (h2.mono (e1.trans ef)) (.cons (h4.mono (e1.trans ef)) (.cons (h6.mono (e1.trans ef)) .nil)))⟩
/-- range(n - 1, -1, -1) -/
theorem it_rngDn {a : Int} {n : Nat} (h : EvS K ta G [.int a, .int (-1), .int (-1)]) (e : a + 1 = (n : Int)) (hn : n < 1000000000) : ItD K (iRng3 ta) G (downD 0 n) := .mk fun {H0 F0 F H σ} En R q => h En _ fun vs F1 H1 E1 f1 g1 n1 r1 => by
  cases r1 with
  | cons r1 rr =>
    cases rr with
    | cons r2 rr =>
      cases rr with
      | cons r3 rr =>
        cases rr
        cases r1
        cases r2
        cases r3
        have hr := RgC.neg (i := a) (j := -1) (by omega) (by omega) (by decide) (by decide)
        have hz : (a - -1).toNat = n := by omega
        rw [hz] at hr
        refine ⟨a, -1, -1, n, rfl, hr, q _ F1 H1 E1 f1 g1 n1 ?_⟩
        refine wk_fn (f := fun (i : Nat) => 0 + (n : Int) - 1 - (i : Int)) (w := (⟨fun _ _ hi _ => hi, fun _ _ => Nat.le_refl _, fun i H x H' hi _ y => ⟨hi, y.1, ?_⟩⟩ : Walk (Itc a (-1) n) n (fun _ => True) fun i H x H' => i < n ∧ H' = H ∧ x = .int (0 + (n : Int) - 1 - (i : Int)))) fun i H x H' y => y
        rw [y.2]
        congr 1
        omega
/-- xs.reverse() -/
theorem st_turn {i : Nat} (h : G[i]? = some (.own (.lst l))) : StD K (tDrop (tBM0 K "list" rReverse (tVar i))) G (.nx (G.set i (.own (.lst l.reverse)))) := .mk fun {H0 F0 F H σ E} En p => by
  unfold tDrop tBM0
  exact e_own h En fun q xs hq hH hF hr => ⟨Or.inl ⟨rfl, xs, sq_of hH⟩, q, xs, rfl, rfl, hH, p σ F _ (En.mut h hq (.lst hr.rev)) (Ex.refl F)⟩
end
end Cy

set_option Elab.async false
set_option linter.all false
set_option maxRecDepth 100000
set_option maxHeartbeats 4000000
namespace L04
open PySem L2 Evl Cy TL
/-! a rail, its cranes, places on it -/
theorem wipe1 {G : List Sl} {j : Nat} {d : Sl} : (wipeG G [j]).set j d = G.set j d := by
  show (G.set j .no).set j d = G.set j d
  rw [List.set_set]
def amongI : D → Int → Int → Bool
  | .int i, a, b => decide (a ≤ i) && decide (i ≤ b)
  | _, _, _ => false
def R_is_among : List D → D → Prop := fun ds d => ∃ x a b, ds = [x, .int a, .int b] ∧ noObj x = true ∧ d = .bl (amongI x a b)
theorem ln_is_among {ds : List D} {d : D} (h : R_is_among ds d) : ds.length = 3 := by
  obtain ⟨x, a, b, rfl, _⟩ := h
  rfl
def crD (p : Int × Int) : D := .tup [.int p.1, .int p.2]
structure RailOk (e r : Int) (cr : List (Int × Int)) : Prop where
  e1 : 1 ≤ e
  e2 : e ≤ 1000000000000
  r1 : 1 ≤ r
  r2 : r ≤ 1000000
  c1 : 1 ≤ cr.length
  c2 : cr.length ≤ 6
  cs : ∀ p ∈ cr, 1 ≤ p.1 ∧ p.1 ≤ 1000000000 ∧ 1 ≤ p.2 ∧ p.2 ≤ 1000
  fit : ((cr.length : Int) - 1) * r ≤ e
def railFs (e r : Int) (cr : List (Int × Int)) : List (Str × D) := [("end", .int e), ("room", .int r), ("cranes", .tup (cr.map crD))]
def R_is_crane : List D → D → Prop := fun ds d => ∃ p : Int × Int, ds = [crD p] ∧ (1 ≤ p.1 ∧ p.1 ≤ 1000000000 ∧ 1 ≤ p.2 ∧ p.2 ≤ 1000) ∧ d = .bl true
theorem ln_is_crane {ds : List D} {d : D} (h : R_is_crane ds d) : ds.length = 1 := by
  obtain ⟨x, rfl, _⟩ := h
  rfl
def R_is_rail : List D → D → Prop := fun ds d => ∃ e r cr, ds = [.int e, .int r, .lst (cr.map crD)] ∧ RailOk e r cr ∧ d = .bl true
theorem ln_is_rail {ds : List D} {d : D} (h : R_is_rail ds d) : ds.length = 3 := by
  obtain ⟨x, a, b, rfl, _⟩ := h
  rfl
def R_Rail_init : List D → List (Str × D) → Prop := fun ds fs => ∃ e r cr, ds = [.int e, .int r, .lst (cr.map crD)] ∧ RailOk e r cr ∧ fs = railFs e r cr
theorem ln_Rail_init {ds : List D} {d : List (Str × D)} (h : R_Rail_init ds d) : ds.length = 3 := by
  obtain ⟨x, a, b, rfl, _⟩ := h
  rfl
def cellAt (ns : List Int) (k : Int) : Int := ns.getD k.toNat 0
def R_l_cell_at : List D → D → Prop := fun ds d => ∃ ns k, ds = [.scr ns, .int k] ∧ 0 ≤ k ∧ d = .int (cellAt ns k)
theorem ln_l_cell_at {ds : List D} {d : D} (h : R_l_cell_at ds d) : ds.length = 2 := by
  obtain ⟨x, a, rfl, _⟩ := h
  rfl
def mx1 (ns : List Int) (k : Int) : Int := (cellAt ns k * 48271 + 7919 * k + 12345) % 2147483647
def mx (ns : List Int) (k : Int) : Int :=
  if ns ≠ [] ∧ ns.getD 0 0 % 2 = 1 then cellAt ns k % 2000000000000000000000000000000000000000000000000000000000000 / 2 else mx1 ns k * (mx1 ns k + 69621 * k) % 2147483629
theorem mx_nn (ns : List Int) (k : Int) : 0 ≤ mx ns k := by
  unfold mx
  split
  · exact Int.ediv_nonneg (Int.emod_nonneg _ (by decide)) (by decide)
  · exact Int.emod_nonneg _ (by decide)
def R_l_mixed : List D → D → Prop := fun ds d => ∃ ns k, ds = [.scr ns, .int k] ∧ 0 ≤ k ∧ k ≤ 1000 ∧ d = .int (mx ns k)
theorem ln_l_mixed {ds : List D} {d : D} (h : R_l_mixed ds d) : ds.length = 2 := by
  obtain ⟨x, a, rfl, _⟩ := h
  rfl
/-- places that are apart -/
structure Ap (e r : Int) (ps : List Int) : Prop where
  lo : ∀ i, i < ps.length → 0 ≤ ps.getD i 0
  hi : ∀ i, i < ps.length → ps.getD i 0 ≤ e
  gap : ∀ i, i + 1 < ps.length → ps.getD i 0 + r ≤ ps.getD (i + 1) 0
def sp_is_among (K : PySem.W.Frag) (c_Rail : Addr) : Sp := spD K R_is_among
def sp_is_crane (K : PySem.W.Frag) (c_Rail : Addr) : Sp := spD K R_is_crane
def sp_is_rail (K : PySem.W.Frag) (c_Rail : Addr) : Sp := spD K R_is_rail
def sp_Rail_init (K : PySem.W.Frag) (c_Rail : Addr) : Sp := spI K c_Rail R_Rail_init
def sp_l_cell_at (K : PySem.W.Frag) (c_Rail : Addr) : Sp := spD K R_l_cell_at
def sp_l_mixed (K : PySem.W.Frag) (c_Rail : Addr) : Sp := spD K R_l_mixed
section
variable {K : PySem.W.Frag} {c_Rail : Addr} {vs : List V} {H : Hp} {Q : VK} {E : XK}
theorem len_is_among (h : sp_is_among K c_Rail vs H Q E) : vs.length = 3 := spD_len (fun _ _ => ln_is_among) h
theorem len_is_crane (h : sp_is_crane K c_Rail vs H Q E) : vs.length = 1 := spD_len (fun _ _ => ln_is_crane) h
theorem len_is_rail (h : sp_is_rail K c_Rail vs H Q E) : vs.length = 3 := spD_len (fun _ _ => ln_is_rail) h
theorem len_Rail_init (h : sp_Rail_init K c_Rail vs H Q E) : vs.length = 4 := spI_len (fun _ _ => ln_Rail_init) h
theorem len_l_cell_at (h : sp_l_cell_at K c_Rail vs H Q E) : vs.length = 2 := spD_len (fun _ _ => ln_l_cell_at) h
theorem len_l_mixed (h : sp_l_mixed K c_Rail vs H Q E) : vs.length = 2 := spD_len (fun _ _ => ln_l_mixed) h
end

/-! spans, one by one -/
abbrev PS := List (Int × Int)
def pA (S : PS) (i : Nat) : Int := (S.getD i (0, 0)).1
def pB (S : PS) (i : Nat) : Int := (S.getD i (0, 0)).2
def lowE (r : Int) (S : PS) : Nat → Int
  | 0 => pA S 0
  | k + 1 => max (pA S (k + 1)) (lowE r S k + r)
def highD (r : Int) (S : PS) (n : Nat) : Nat → Int
  | 0 => pB S (n - 1)
  | j + 1 => min (pB S (n - 1 - (j + 1))) (highD r S n j - r)
def highE (r : Int) (S : PS) (c : Nat) : Int := highD r S S.length (S.length - 1 - c)
theorem lowE_ge (r : Int) (S : PS) : ∀ i, pA S i ≤ lowE r S i
  | 0 => Int.le_refl _
  | i + 1 => by
    unfold lowE
    omega
theorem lowE_gap (r : Int) (S : PS) (i : Nat) : lowE r S i + r ≤ lowE r S (i + 1) := by
  show _ ≤ max (pA S (i + 1)) (lowE r S i + r)
  omega
theorem highE_last (r : Int) (S : PS) {c : Nat} (h : c + 1 = S.length) : highE r S c = pB S c := by
  unfold highE
  have e : S.length - 1 - c = 0 := by omega
  rw [e]
  show pB S (S.length - 1) = pB S c
  have : S.length - 1 = c := by omega
  rw [this]
theorem highE_step (r : Int) (S : PS) {c : Nat} (h : c + 1 < S.length) : highE r S c = min (pB S c) (highE r S (c + 1) - r) := by
  unfold highE
  have e : S.length - 1 - c = (S.length - 1 - (c + 1)) + 1 := by omega
  rw [e]
  show min (pB S (S.length - 1 - ((S.length - 1 - (c + 1)) + 1))) _ = _
  have : S.length - 1 - ((S.length - 1 - (c + 1)) + 1) = c := by omega
  rw [this]
theorem highE_le (r : Int) (S : PS) {c : Nat} (h : c < S.length) : highE r S c ≤ pB S c := by
  by_cases q : c + 1 < S.length
  · rw [highE_step r S q]
    omega
  · rw [highE_last r S (by omega)]
    omega
/-- the lowest row fits -/
def Fits (r : Int) (S : PS) : Prop := ∀ i, i < S.length → lowE r S i ≤ pB S i
theorem fits_high {r : Int} {S : PS} (F : Fits r S) : ∀ j i, i + j + 1 = S.length → lowE r S i ≤ highE r S i
  | 0, i, h => by
    rw [highE_last r S (by omega)]
    exact F i (by omega)
  | j + 1, i, h => by
    have ih := fits_high F j (i + 1) (by omega)
    have g := lowE_gap r S i
    have f := F i (by omega)
    rw [highE_step r S (by omega)]
    omega
theorem fits_le {r : Int} {S : PS} (F : Fits r S) {i : Nat} (h : i < S.length) : lowE r S i ≤ highE r S i := fits_high F (S.length - 1 - i) i (by omega)
theorem pA_set_ne {S : PS} {c i : Nat} {p : Int × Int} (h : c ≠ i) : pA (S.set c p) i = pA S i := by
  unfold pA
  rw [List.getD_eq_getElem?_getD, List.getD_eq_getElem?_getD, List.getElem?_set_ne h]
theorem pB_set_ne {S : PS} {c i : Nat} {p : Int × Int} (h : c ≠ i) : pB (S.set c p) i = pB S i := by
  unfold pB
  rw [List.getD_eq_getElem?_getD, List.getD_eq_getElem?_getD, List.getElem?_set_ne h]
theorem pA_set {S : PS} {c : Nat} {p : Int × Int} (h : c < S.length) : pA (S.set c p) c = p.1 := by
  unfold pA
  rw [List.getD_eq_getElem?_getD, List.getElem?_set_self h]
  rfl
theorem pB_set {S : PS} {c : Nat} {p : Int × Int} (h : c < S.length) : pB (S.set c p) c = p.2 := by
  unfold pB
  rw [List.getD_eq_getElem?_getD, List.getElem?_set_self h]
  rfl
theorem lowE_set_lt {r : Int} {S : PS} {c : Nat} {p : Int × Int} : ∀ i, i < c → lowE r (S.set c p) i = lowE r S i
  | 0, h => pA_set_ne (by omega)
  | i + 1, h => by
    unfold lowE
    rw [pA_set_ne (by omega), lowE_set_lt i (by omega)]
theorem lowE_set_eq {r : Int} {S : PS} {c : Nat} {p : Int} (h : c < S.length) (hp : lowE r S c ≤ p) : lowE r (S.set c (p, p)) c = p := by
  cases c with
  | zero => exact pA_set h
  | succ c =>
    have g := lowE_gap r S c
    unfold lowE
    rw [pA_set h, lowE_set_lt c (by omega)]
    show max p _ = p
    omega
theorem lowE_set_gt {r : Int} {S : PS} (F : Fits r S) {c : Nat} {p : Int} (h : c < S.length) (hp : lowE r S c ≤ p) (hq : p ≤ highE r S c) : ∀ d, c + d < S.length → lowE r (S.set c (p, p)) (c + d) ≤ highE r S (c + d)
  | 0, _ => by
    show lowE r (S.set c (p, p)) c ≤ _
    rw [lowE_set_eq h hp]
    exact hq
  | d + 1, hd => by
    have ih := lowE_set_gt F h hp hq d (by omega)
    rw [highE_step r S (by omega)] at ih
    have g := fits_le F (i := c + d + 1) (by omega)
    have l := lowE_ge r S (c + d + 1)
    show max (pA (S.set c (p, p)) (c + d + 1)) (lowE r (S.set c (p, p)) (c + d) + r) ≤ highE r S (c + d + 1)
    rw [pA_set_ne (by omega)]
    omega
theorem fits_set {r : Int} {S : PS} (F : Fits r S) {c : Nat} {p : Int} (h : c < S.length) (hp : lowE r S c ≤ p) (hq : p ≤ highE r S c) : Fits r (S.set c (p, p)) := by
  intro i hi
  rw [List.length_set] at hi
  by_cases q : i < c
  · rw [lowE_set_lt i q, pB_set_ne (by omega)]
    exact F i hi
  · by_cases z : i = c
    · subst z
      rw [lowE_set_eq h hp, pB_set h]
      omega
    · have g := lowE_set_gt F h hp hq (i - c) (by omega)
      have e : c + (i - c) = i := by omega
      rw [e] at g
      rw [pB_set_ne (by omega)]
      exact Int.le_trans g (highE_le r S hi)
/-- by sums -/
theorem lowE_all {r : Int} {S : PS} : ∀ c o, o ≤ c → pA S o + ((c : Int) - (o : Int)) * r ≤ lowE r S c
  | 0, o, h => by
    have : o = 0 := by omega
    subst this
    show pA S 0 + ((0 : Int) - 0) * r ≤ pA S 0
    rw [Int.sub_self, Int.zero_mul]
    omega
  | c + 1, o, h => by
    by_cases q : o = c + 1
    · subst q
      rw [Int.sub_self, Int.zero_mul]
      have := lowE_ge r S (c + 1)
      omega
    · have ih := lowE_all (r := r) (S := S) c o (by omega)
      have g := lowE_gap r S c
      have e : (((c + 1 : Nat) : Int) - (o : Int)) * r = ((c : Int) - (o : Int)) * r + r := by
        have : (((c + 1 : Nat) : Int) - (o : Int)) = ((c : Int) - (o : Int)) + 1 := by omega
        rw [this, Int.add_mul, Int.one_mul]
      rw [e]
      omega
theorem lowE_some {r : Int} {S : PS} : ∀ c, ∃ o, o ≤ c ∧ pA S o + ((c : Int) - (o : Int)) * r = lowE r S c
  | 0 => ⟨0, Nat.le_refl 0, by
    rw [Int.sub_self, Int.zero_mul]
    exact Int.add_zero _⟩
  | c + 1 => by
    by_cases q : lowE r S c + r ≤ pA S (c + 1)
    · refine ⟨c + 1, Nat.le_refl _, ?_⟩
      rw [Int.sub_self, Int.zero_mul]
      show _ = max (pA S (c + 1)) (lowE r S c + r)
      omega
    · obtain ⟨o, h1, h2⟩ := lowE_some (r := r) (S := S) c
      refine ⟨o, by omega, ?_⟩
      have e : (((c + 1 : Nat) : Int) - (o : Int)) * r = ((c : Int) - (o : Int)) * r + r := by
        have : (((c + 1 : Nat) : Int) - (o : Int)) = ((c : Int) - (o : Int)) + 1 := by omega
        rw [this, Int.add_mul, Int.one_mul]
      rw [e]
      show _ = max (pA S (c + 1)) (lowE r S c + r)
      omega
theorem highE_all {r : Int} {S : PS} : ∀ d c, c + d < S.length → highE r S c ≤ pB S (c + d) - (((c + d : Nat) : Int) - (c : Int)) * r
  | 0, c, h => by
    show highE r S c ≤ pB S c - ((c : Int) - (c : Int)) * r
    rw [Int.sub_self, Int.zero_mul]
    have := highE_le r S (c := c) h
    omega
  | d + 1, c, h => by
    have ih := highE_all (r := r) (S := S) d (c + 1) (by omega)
    rw [highE_step r S (by omega)]
    have e : (((c + (d + 1) : Nat) : Int) - (c : Int)) * r = (((c + 1 + d : Nat) : Int) - ((c + 1 : Nat) : Int)) * r + r := by
      have : (((c + (d + 1) : Nat) : Int) - (c : Int)) = (((c + 1 + d : Nat) : Int) - ((c + 1 : Nat) : Int)) + 1 := by omega
      rw [this, Int.add_mul, Int.one_mul]
    rw [e]
    have e2 : c + (d + 1) = c + 1 + d := by omega
    rw [e2]
    omega
theorem highE_some {r : Int} {S : PS} : ∀ d c, c + d + 1 = S.length → ∃ x, c + x < S.length ∧ highE r S c = pB S (c + x) - (((c + x : Nat) : Int) - (c : Int)) * r
  | 0, c, h => ⟨0, by omega, by
    rw [highE_last r S (by omega)]
    show pB S c = pB S c - ((c : Int) - (c : Int)) * r
    rw [Int.sub_self, Int.zero_mul]
    omega⟩
  | d + 1, c, h => by
    have hs := highE_step r S (c := c) (by omega)
    by_cases q : pB S c ≤ highE r S (c + 1) - r
    · refine ⟨0, by omega, ?_⟩
      show _ = pB S c - ((c : Int) - (c : Int)) * r
      rw [Int.sub_self, Int.zero_mul, hs]
      omega
    · obtain ⟨x, h1, h2⟩ := highE_some (r := r) (S := S) d (c + 1) (by omega)
      refine ⟨x + 1, by omega, ?_⟩
      have e : (((c + (x + 1) : Nat) : Int) - (c : Int)) * r = (((c + 1 + x : Nat) : Int) - ((c + 1 : Nat) : Int)) * r + r := by
        have : (((c + (x + 1) : Nat) : Int) - (c : Int)) = (((c + 1 + x : Nat) : Int) - ((c + 1 : Nat) : Int)) + 1 := by omega
        rw [this, Int.add_mul, Int.one_mul]
      rw [e]
      have e2 : c + (x + 1) = c + 1 + x := by omega
      rw [e2, hs]
      omega
/-! goals, ranks -/
def goalD : Option Int → D
  | none => .non
  | some g => .int g
def wish (ps : List Int) (gs : List (Option Int)) (c : Nat) : Int := match gs.getD c none with
  | none => ps.getD c 0
  | some g => g
def plc (r : Int) (ps : List Int) (gs : List (Option Int)) (S : PS) (c : Nat) : Int := min (max (wish ps gs c) (lowE r S c)) (highE r S c)
def stp (r : Int) (ps : List Int) (gs : List (Option Int)) (S : PS) (c : Nat) : PS := S.set c (plc r ps gs S c, plc r ps gs S c)
def fst (r : Int) (ps : List Int) (gs : List (Option Int)) (rk : List Nat) (S : PS) : Nat → PS
  | 0 => S
  | k + 1 => stp r ps gs (fst r ps gs rk S k) (rk.getD k 0)
theorem fst_len {r : Int} {ps : List Int} {gs : List (Option Int)} {rk : List Nat} {S : PS} : ∀ k, (fst r ps gs rk S k).length = S.length
  | 0 => rfl
  | k + 1 => by
    show (stp r ps gs (fst r ps gs rk S k) (rk.getD k 0)).length = _
    unfold stp
    rw [List.length_set, fst_len k]
/-- what stays true of the spans -/
structure Spn (r e : Int) (n : Nat) (S : PS) : Prop where
  len : S.length = n
  fit : Fits r S
  lo : ∀ i, i < n → 0 ≤ pA S i
  hi : ∀ i, i < n → pB S i ≤ e
theorem plc_in {r e : Int} {n : Nat} {S : PS} (h : Spn r e n S) (ps : List Int) (gs : List (Option Int)) {c : Nat} (hc : c < n) : lowE r S c ≤ plc r ps gs S c ∧ plc r ps gs S c ≤ highE r S c := by
  have := fits_le h.fit (i := c) (by rw [h.len]; exact hc)
  unfold plc
  omega
theorem stp_spn {r e : Int} {n : Nat} {S : PS} (h : Spn r e n S) (ps : List Int) (gs : List (Option Int)) {c : Nat} (hc : c < n) : Spn r e n (stp r ps gs S c) := by
  have hl : c < S.length := by rw [h.len]; exact hc
  obtain ⟨h1, h2⟩ := plc_in h ps gs hc
  unfold stp
  generalize plc r ps gs S c = p at h1 h2
  refine ⟨by rw [List.length_set]; exact h.len, fits_set h.fit hl h1 h2, fun i hi => ?_, fun i hi => ?_⟩
  · by_cases q : c = i
    · subst q
      rw [pA_set hl]
      have := h.lo c hc
      have := lowE_ge r S c
      show 0 ≤ p
      omega
    · rw [pA_set_ne q]
      exact h.lo i hi
  · by_cases q : c = i
    · subst q
      rw [pB_set hl]
      have := h.hi c hc
      have := highE_le r S hl
      show p ≤ e
      omega
    · rw [pB_set_ne q]
      exact h.hi i hi
theorem fst_spn {r e : Int} {n : Nat} {S : PS} (h : Spn r e n S) (ps : List Int) (gs : List (Option Int)) {rk : List Nat} (hr : ∀ c ∈ rk, c < n) : ∀ k, k ≤ rk.length → Spn r e n (fst r ps gs rk S k)
  | 0, _ => h
  | k + 1, hk => stp_spn (fst_spn h ps gs hr k (by omega)) ps gs (hr _ (getD_in 0 rk k (by omega)))
theorem fst_fix {r e : Int} {n : Nat} {S : PS} (h : Spn r e n S) (ps : List Int) (gs : List (Option Int)) {rk : List Nat} (hr : ∀ c ∈ rk, c < n) : ∀ k, k ≤ rk.length → ∀ j, j < k → pA (fst r ps gs rk S k) (rk.getD j 0) = pB (fst r ps gs rk S k) (rk.getD j 0)
  | 0, _, j, hj => absurd hj (Nat.not_lt_zero j)
  | k + 1, hk, j, hj => by
    have hl : (fst r ps gs rk S k).length = n := by rw [fst_len, h.len]
    have hc : rk.getD k 0 < (fst r ps gs rk S k).length := by
      rw [hl]
      exact hr _ (getD_in 0 rk k (by omega))
    show pA (stp r ps gs (fst r ps gs rk S k) (rk.getD k 0)) _ = pB (stp r ps gs (fst r ps gs rk S k) (rk.getD k 0)) _
    unfold stp
    by_cases q : rk.getD k 0 = rk.getD j 0
    · rw [← q, pA_set hc, pB_set hc]
    · rw [pA_set_ne q, pB_set_ne q]
      have hjk : j < k := by
        by_cases z : j = k
        · subst z
          exact absurd rfl q
        · omega
      exact fst_fix h ps gs hr k (by omega) j hjk
theorem fixed_low {r e : Int} {n : Nat} {S : PS} (h : Spn r e n S) {i : Nat} (hi : i < n) (hf : pA S i = pB S i) : lowE r S i = pA S i := by
  have := h.fit i (by rw [h.len]; exact hi)
  have := lowE_ge r S i
  omega
theorem getA {S : PS} {i : Nat} (h : i < S.length) : (S.map (fun p => p.1)).getD i 0 = pA S i := by
  unfold pA
  rw [List.getD_eq_getElem?_getD, List.getElem?_map, List.getD_eq_getElem?_getD, List.getElem?_eq_getElem h]
  rfl
theorem spn_ap {r e : Int} {n : Nat} {S : PS} (h : Spn r e n S) (hf : ∀ i, i < n → pA S i = pB S i) : Ap e r (S.map fun p => p.1) := by
  have hl : (S.map fun p => p.1).length = n := by rw [List.length_map, h.len]
  refine ⟨fun i hi => ?_, fun i hi => ?_, fun i hi => ?_⟩
  · rw [hl] at hi
    rw [getA (by rw [h.len]; exact hi)]
    exact h.lo i hi
  · rw [hl] at hi
    rw [getA (by rw [h.len]; exact hi), hf i hi]
    exact h.hi i hi
  · rw [hl] at hi
    rw [getA (by rw [h.len]; omega), getA (by rw [h.len]; exact hi), ← fixed_low h (i := i) (by omega) (hf i (by omega)), ← fixed_low h hi (hf _ hi)]
    exact lowE_gap r S i
/-! the first spans -/
def sq {α : Type} (f : Nat → α) (n : Nat) : List α := (List.range n).map f
theorem sq_len {α : Type} (f : Nat → α) (n : Nat) : (sq f n).length = n := by
  unfold sq
  rw [List.length_map, List.length_range]
theorem sq_succ {α : Type} (f : Nat → α) (n : Nat) : sq f (n + 1) = sq f n ++ [f n] := by
  unfold sq
  rw [List.range_succ, List.map_append]
  rfl
theorem sq_getD {α : Type} (f : Nat → α) (n : Nat) (e : α) {i : Nat} (h : i < n) : (sq f n).getD i e = f i := by
  unfold sq
  rw [List.getD_eq_getElem?_getD, List.getElem?_map, List.getElem?_range h]
  rfl
theorem sq_mem {α : Type} {f : Nat → α} {n : Nat} {x : α} (h : x ∈ sq f n) : ∃ i, i < n ∧ x = f i := by
  unfold sq at h
  obtain ⟨i, hi, rfl⟩ := List.mem_map.mp h
  exact ⟨i, List.mem_range.mp hi, rfl⟩
theorem sq_map {α β : Type} (g : α → β) (f : Nat → α) (n : Nat) : (sq f n).map g = sq (fun i => g (f i)) n := by
  unfold sq
  rw [List.map_map]
  rfl
def stepAt (cr : List (Int × Int)) (ws : List Bool) (i : Nat) : Int := if ws.getD i false then 0 else pA cr i
def side (e : Int) (cr : List (Int × Int)) (ps : List Int) (ws : List Bool) (i : Nat) : Int × Int := (max 0 (ps.getD i 0 - stepAt cr ws i), min e (ps.getD i 0 + stepAt cr ws i))
def sides (e : Int) (cr : List (Int × Int)) (ps : List Int) (ws : List Bool) : PS := sq (side e cr ps ws) ps.length
theorem step_nn {e r : Int} {cr : List (Int × Int)} (ok : RailOk e r cr) {ws : List Bool} {i : Nat} (h : i < cr.length) : 0 ≤ stepAt cr ws i := by
  unfold stepAt
  split
  · exact Int.le_refl 0
  · have := (ok.cs _ (getD_in (0, 0) cr i h)).1
    unfold pA
    omega
theorem sides_spn {e r : Int} {cr : List (Int × Int)} (ok : RailOk e r cr) {ps : List Int} (ap : Ap e r ps) (hl : ps.length = cr.length) (ws : List Bool) : Spn r e ps.length (sides e cr ps ws) := by
  have hA : ∀ i, i < ps.length → pA (sides e cr ps ws) i = max 0 (ps.getD i 0 - stepAt cr ws i) := fun i hi => by
    unfold pA sides
    rw [sq_getD _ _ _ hi]
    rfl
  have hB : ∀ i, i < ps.length → pB (sides e cr ps ws) i = min e (ps.getD i 0 + stepAt cr ws i) := fun i hi => by
    unfold pB sides
    rw [sq_getD _ _ _ hi]
    rfl
  have hlow : ∀ i, i < ps.length → lowE r (sides e cr ps ws) i ≤ ps.getD i 0 := by
    intro i
    induction i with
    | zero =>
      intro hi
      show pA _ 0 ≤ _
      rw [hA 0 hi]
      have := ap.lo 0 hi
      have := step_nn ok (ws := ws) (i := 0) (by omega)
      omega
    | succ i ih =>
      intro hi
      have h1 := ih (by omega)
      show max (pA _ (i + 1)) _ ≤ _
      rw [hA _ hi]
      have := ap.lo _ hi
      have := ap.gap i hi
      have := step_nn ok (ws := ws) (i := i + 1) (by omega)
      omega
  refine ⟨sq_len _ _, fun i hi => ?_, fun i hi => ?_, fun i hi => ?_⟩
  · have hi' : i < ps.length := by
      have := sq_len (side e cr ps ws) ps.length
      unfold sides at hi
      omega
    rw [hB i hi']
    have := hlow i hi'
    have := ap.hi i hi'
    have := step_nn ok (ws := ws) (i := i) (by omega)
    omega
  · rw [hA i hi]
    omega
  · rw [hB i hi]
    omega

/-! rows that are let -/
theorem sq_set {α : Type} (f : Nat → α) (n j : Nat) (x : α) : (sq f n).set j x = sq (fun k => if k = j then x else f k) n := by
  unfold sq
  apply List.ext_getElem
  · rw [List.length_set, List.length_map, List.length_map]
  · intro i h1 h2
    rw [List.getElem_set, List.getElem_map, List.getElem_map, List.getElem_range]
    by_cases q : j = i
    · rw [if_pos q, if_pos q.symm]
    · rw [if_neg q, if_neg fun z => q z.symm]
theorem sq_ext {α : Type} {f g : Nat → α} {n : Nat} (h : ∀ k, k < n → f k = g k) : sq f n = sq g n := by
  unfold sq
  exact List.map_congr_left fun i hi => h i (List.mem_range.mp hi)
theorem sq_of {α : Type} (e : α) (l : List α) : l = sq (fun k => l.getD k e) l.length := by
  unfold sq
  apply List.ext_getElem
  · rw [List.length_map, List.length_range]
  · intro i h1 h2
    rw [List.getElem_map, List.getElem_range, List.getD_eq_getElem?_getD, List.getElem?_eq_getElem h1]
    rfl
theorem sq_rev {α : Type} (f : Nat → α) (n : Nat) : (sq f n).reverse = sq (fun k => f (n - 1 - k)) n := by
  unfold sq
  apply List.ext_getElem
  · rw [List.length_reverse, List.length_map, List.length_map]
  · intro i h1 h2
    rw [List.getElem_reverse, List.getElem_map, List.getElem_map, List.getElem_range, List.getElem_range, List.length_map, List.length_range]
def InK (e : Int) (cr : List (Int × Int)) (ps row : List Int) (ws : List Bool) (k : Nat) : Prop := (0 ≤ row.getD k 0 ∧ row.getD k 0 ≤ e) ∧ ps.getD k 0 - stepAt cr ws k ≤ row.getD k 0 ∧ row.getD k 0 ≤ ps.getD k 0 + stepAt cr ws k
instance {e : Int} {cr : List (Int × Int)} {ps row : List Int} {ws : List Bool} {k : Nat} : Decidable (InK e cr ps row ws k) := by
  unfold InK
  exact inferInstance
def gapB (r : Int) (row : List Int) : Bool := (sq (fun i => decide (r ≤ row.getD (i + 1) 0 - row.getD i 0)) (row.length - 1)).all id
def isLet (e r : Int) (cr : List (Int × Int)) (ps row : List Int) (ws : List Bool) : Bool := decide (∀ k, k < row.length → InK e cr ps row ws k) && gapB r row
theorem gapB_iff {r : Int} {row : List Int} : gapB r row = true ↔ ∀ i, i + 1 < row.length → row.getD i 0 + r ≤ row.getD (i + 1) 0 := by
  unfold gapB
  rw [List.all_eq_true]
  refine ⟨fun h i hi => ?_, fun h b hb => ?_⟩
  · have := h (decide (r ≤ row.getD (i + 1) 0 - row.getD i 0)) (by
      unfold sq
      exact List.mem_map.mpr ⟨i, List.mem_range.mpr (by omega), rfl⟩)
    have := of_decide_eq_true this
    omega
  · obtain ⟨i, hi, rfl⟩ := sq_mem hb
    have := h i (by omega)
    exact decide_eq_true (by omega)
theorem isLet_iff {e r : Int} {cr : List (Int × Int)} {ps row : List Int} {ws : List Bool} : isLet e r cr ps row ws = true ↔ (∀ k, k < row.length → InK e cr ps row ws k) ∧ ∀ i, i + 1 < row.length → row.getD i 0 + r ≤ row.getD (i + 1) 0 := by
  unfold isLet
  rw [Bool.and_eq_true, gapB_iff, decide_eq_true_iff]
theorem sides_A {e : Int} {cr : List (Int × Int)} {ps : List Int} {ws : List Bool} {i : Nat} (hi : i < ps.length) : pA (sides e cr ps ws) i = max 0 (ps.getD i 0 - stepAt cr ws i) := by
  unfold pA sides
  rw [sq_getD _ _ _ hi]
  rfl
theorem sides_B {e : Int} {cr : List (Int × Int)} {ps : List Int} {ws : List Bool} {i : Nat} (hi : i < ps.length) : pB (sides e cr ps ws) i = min e (ps.getD i 0 + stepAt cr ws i) := by
  unfold pB sides
  rw [sq_getD _ _ _ hi]
  rfl
theorem inK_iff {e : Int} {cr : List (Int × Int)} {ps row : List Int} {ws : List Bool} {k : Nat} (hk : k < ps.length) : InK e cr ps row ws k ↔ pA (sides e cr ps ws) k ≤ row.getD k 0 ∧ row.getD k 0 ≤ pB (sides e cr ps ws) k := by
  rw [sides_A hk, sides_B hk]
  unfold InK
  omega
/-- a row lies between the ends -/
theorem row_low {r : Int} {S : PS} {f : Nat → Int} {n : Nat} (h1 : ∀ i, i < n → pA S i ≤ f i) (h2 : ∀ i, i + 1 < n → f i + r ≤ f (i + 1)) : ∀ i, i < n → lowE r S i ≤ f i
  | 0, h => h1 0 h
  | i + 1, h => by
    have ih := row_low h1 h2 i (by omega)
    have a := h1 (i + 1) h
    have b := h2 i h
    show max (pA S (i + 1)) (lowE r S i + r) ≤ _
    omega
theorem row_high' {r : Int} {S : PS} {f : Nat → Int} (h1 : ∀ i, i < S.length → f i ≤ pB S i) (h2 : ∀ i, i + 1 < S.length → f i + r ≤ f (i + 1)) : ∀ d i, i + d + 1 = S.length → f i ≤ highE r S i
  | 0, i, h => by
    rw [highE_last r S (by omega)]
    exact h1 i (by omega)
  | d + 1, i, h => by
    have ih := row_high' h1 h2 d (i + 1) (by omega)
    have a := h1 i (by omega)
    have b := h2 i (by omega)
    rw [highE_step r S (by omega)]
    omega
theorem row_high {r : Int} {S : PS} {f : Nat → Int} (h1 : ∀ i, i < S.length → f i ≤ pB S i) (h2 : ∀ i, i + 1 < S.length → f i + r ≤ f (i + 1)) {i : Nat} (h : i < S.length) : f i ≤ highE r S i := row_high' h1 h2 (S.length - 1 - i) i (by omega)
/-- the row that gives way to one crane -/
def upR (r : Int) (ps : List Int) (c : Nat) (p : Int) : Nat → Int
  | 0 => p
  | d + 1 => max (ps.getD (c + (d + 1)) 0) (upR r ps c p d + r)
def dnR (r : Int) (ps : List Int) (c : Nat) (p : Int) : Nat → Int
  | 0 => p
  | d + 1 => min (ps.getD (c - (d + 1)) 0) (dnR r ps c p d - r)
def byf (r : Int) (ps : List Int) (c : Nat) (p : Int) (k : Nat) : Int := if k < c then dnR r ps c p (c - k) else upR r ps c p (k - c)
def byR (r : Int) (ps : List Int) (c : Nat) (p : Int) : List Int := sq (byf r ps c p) ps.length
theorem byf_self {r : Int} {ps : List Int} {c : Nat} {p : Int} : byf r ps c p c = p := by
  unfold byf
  rw [if_neg (Nat.lt_irrefl c), Nat.sub_self]
  rfl
theorem byf_gap {r : Int} {ps : List Int} {c : Nat} {p : Int} (i : Nat) : byf r ps c p i + r ≤ byf r ps c p (i + 1) := by
  by_cases h : i < c
  · have e : byf r ps c p i = min (ps.getD i 0) (dnR r ps c p (c - i - 1) - r) := by
      unfold byf
      rw [if_pos h]
      have : c - i = (c - i - 1) + 1 := by omega
      rw [this]
      show min (ps.getD (c - ((c - i - 1) + 1)) 0) _ = _
      have : c - ((c - i - 1) + 1) = i := by omega
      rw [this]
      rfl
    have e2 : byf r ps c p (i + 1) = dnR r ps c p (c - i - 1) := by
      by_cases q : i + 1 < c
      · unfold byf
        rw [if_pos q]
        congr 1
      · have : i + 1 = c := by omega
        rw [this, byf_self]
        have : c - i - 1 = 0 := by omega
        rw [this]
        rfl
    rw [e, e2]
    omega
  · have e : byf r ps c p i = upR r ps c p (i - c) := by
      unfold byf
      rw [if_neg h]
    have e2 : byf r ps c p (i + 1) = max (ps.getD (i + 1) 0) (upR r ps c p (i - c) + r) := by
      unfold byf
      rw [if_neg (by omega)]
      have : i + 1 - c = (i - c) + 1 := by omega
      rw [this]
      show max (ps.getD (c + ((i - c) + 1)) 0) _ = _
      have : c + ((i - c) + 1) = i + 1 := by omega
      rw [this]
    rw [e, e2]
    omega
section
variable {r : Int} {S : PS} {ps : List Int} (h1 : ∀ i, i < S.length → pA S i ≤ ps.getD i 0 ∧ ps.getD i 0 ≤ pB S i) (h2 : ∀ i, i + 1 < S.length → ps.getD i 0 + r ≤ ps.getD (i + 1) 0) {c : Nat} (hc : c < S.length) {p : Int} (hp : lowE r S c ≤ p) (hq : p ≤ highE r S c)
include h1 h2 hc hp hq
theorem upR_in : ∀ d, c + d < S.length → pA S (c + d) ≤ upR r ps c p d ∧ upR r ps c p d ≤ highE r S (c + d)
  | 0, _ => by
    have := lowE_ge r S c
    show pA S c ≤ p ∧ p ≤ highE r S c
    omega
  | d + 1, h => by
    have ih := (upR_in d (by omega)).2
    have a := h1 (c + (d + 1)) h
    have b := row_high (r := r) (S := S) (f := fun i => ps.getD i 0) (fun i hi => (h1 i hi).2) h2 h
    have st := highE_step r S (c := c + d) (by omega)
    have e : c + d + 1 = c + (d + 1) := by omega
    rw [e] at st
    show pA S (c + (d + 1)) ≤ max (ps.getD (c + (d + 1)) 0) (upR r ps c p d + r) ∧ max (ps.getD (c + (d + 1)) 0) (upR r ps c p d + r) ≤ _
    omega
theorem dnR_in : ∀ d, d ≤ c → lowE r S (c - d) ≤ dnR r ps c p d ∧ dnR r ps c p d ≤ pB S (c - d)
  | 0, _ => by
    have := highE_le r S hc
    show lowE r S c ≤ p ∧ p ≤ pB S c
    omega
  | d + 1, h => by
    have ih := (dnR_in d (by omega)).1
    have a := h1 (c - (d + 1)) (by omega)
    have b := row_low (r := r) (S := S) (f := fun i => ps.getD i 0) (fun i hi => (h1 i hi).1) h2 (c - (d + 1)) (by omega)
    have g := lowE_gap r S (c - (d + 1))
    have e : c - (d + 1) + 1 = c - d := by omega
    rw [e] at g
    show _ ≤ min (ps.getD (c - (d + 1)) 0) (dnR r ps c p d - r) ∧ min (ps.getD (c - (d + 1)) 0) (dnR r ps c p d - r) ≤ _
    omega
theorem byf_in (k : Nat) (hk : k < S.length) : pA S k ≤ byf r ps c p k ∧ byf r ps c p k ≤ pB S k := by
  unfold byf
  by_cases q : k < c
  · rw [if_pos q]
    have h := dnR_in h1 h2 hc hp hq (c - k) (by omega)
    have e : c - (c - k) = k := by omega
    rw [e] at h
    have := lowE_ge r S k
    omega
  · rw [if_neg q]
    have h := upR_in h1 h2 hc hp hq (k - c) (by omega)
    have e : c + (k - c) = k := by omega
    rw [e] at h
    have := highE_le r S hk
    omega
end
/-- what a crane is given -/
structure Giv (e r : Int) (cr : List (Int × Int)) (ps : List Int) (ws : List Bool) : Prop where
  ok : RailOk e r cr
  ap : Ap e r ps
  lp : ps.length = cr.length
  lw : ws.length = cr.length
section
variable {e r : Int} {cr : List (Int × Int)} {ps : List Int} {ws : List Bool} (g : Giv e r cr ps ws)
include g
theorem Giv.spn : Spn r e ps.length (sides e cr ps ws) := sides_spn g.ok g.ap g.lp ws
theorem Giv.stay {i : Nat} (hi : i < (sides e cr ps ws).length) : pA (sides e cr ps ws) i ≤ ps.getD i 0 ∧ ps.getD i 0 ≤ pB (sides e cr ps ws) i := by
  rw [g.spn.len] at hi
  rw [sides_A hi, sides_B hi]
  have := g.ap.lo i hi
  have := g.ap.hi i hi
  have := step_nn g.ok (ws := ws) (i := i) (by rw [← g.lp]; exact hi)
  omega
theorem Giv.gap {i : Nat} (hi : i + 1 < (sides e cr ps ws).length) : ps.getD i 0 + r ≤ ps.getD (i + 1) 0 := by
  rw [g.spn.len] at hi
  exact g.ap.gap i hi
theorem Giv.by_in {c : Nat} (hc : c < ps.length) {p : Int} (hp : lowE r (sides e cr ps ws) c ≤ p) (hq : p ≤ highE r (sides e cr ps ws) c) {k : Nat} (hk : k < ps.length) : pA (sides e cr ps ws) k ≤ byf r ps c p k ∧ byf r ps c p k ≤ pB (sides e cr ps ws) k :=
  byf_in (fun i hi => g.stay hi) (fun i hi => g.gap hi) (by rw [g.spn.len]; exact hc) hp hq k (by rw [g.spn.len]; exact hk)
theorem Giv.by_let {c : Nat} (hc : c < ps.length) {p : Int} (hp : lowE r (sides e cr ps ws) c ≤ p) (hq : p ≤ highE r (sides e cr ps ws) c) : isLet e r cr ps (byR r ps c p) ws = true := by
  have hl : (byR r ps c p).length = ps.length := sq_len _ _
  rw [isLet_iff]
  refine ⟨fun k hk => ?_, fun i hi => ?_⟩ <;> rw [hl] at *
  · rw [inK_iff hk]
    have := g.by_in hc hp hq hk
    unfold byR
    rw [sq_getD _ _ _ hk]
    exact this
  · unfold byR
    rw [sq_getD _ _ _ hi, sq_getD _ _ _ (by omega)]
    exact byf_gap i
theorem Giv.let_in {row : List Int} (hl : row.length = ps.length) (h : isLet e r cr ps row ws = true) {c : Nat} (hc : c < ps.length) : lowE r (sides e cr ps ws) c ≤ row.getD c 0 ∧ row.getD c 0 ≤ highE r (sides e cr ps ws) c := by
  rw [isLet_iff] at h
  have hS := g.spn.len
  have hin : ∀ k, k < ps.length → pA (sides e cr ps ws) k ≤ row.getD k 0 ∧ row.getD k 0 ≤ pB (sides e cr ps ws) k := fun k hk => (inK_iff hk).mp (h.1 k (by omega))
  exact ⟨row_low (f := fun i => row.getD i 0) (n := ps.length) (fun i hi => (hin i hi).1) (fun i hi => h.2 i (by omega)) c hc, row_high (f := fun i => row.getD i 0) (fun i hi => (hin i (by omega)).2) (fun i hi => h.2 i (by omega)) (by omega)⟩
theorem Giv.by_not {c : Nat} (hc : c < ps.length) {p : Int} (hp : p < lowE r (sides e cr ps ws) c ∨ highE r (sides e cr ps ws) c < p) : isLet e r cr ps (byR r ps c p) ws = false := by
  cases q : isLet e r cr ps (byR r ps c p) ws with
  | false => rfl
  | true =>
    have := g.let_in (sq_len _ _) q hc
    unfold byR at this
    rw [sq_getD _ _ _ hc, byf_self] at this
    omega
theorem Giv.by_ap {c : Nat} (hc : c < ps.length) {p : Int} (hp : lowE r (sides e cr ps ws) c ≤ p) (hq : p ≤ highE r (sides e cr ps ws) c) : Ap e r (byR r ps c p) := by
  have hl : (byR r ps c p).length = ps.length := sq_len _ _
  refine ⟨fun i hi => ?_, fun i hi => ?_, fun i hi => ?_⟩ <;> rw [hl] at hi <;> unfold byR
  · rw [sq_getD _ _ _ hi]
    have := (g.by_in hc hp hq hi).1
    have := g.spn.lo i hi
    omega
  · rw [sq_getD _ _ _ hi]
    have := (g.by_in hc hp hq hi).2
    have := g.spn.hi i hi
    omega
  · rw [sq_getD _ _ _ hi, sq_getD _ _ _ (by omega)]
    exact byf_gap i
theorem Giv.step0 {i : Nat} (hi : i < ps.length) (hw : ws.getD i false = true) : pA (sides e cr ps ws) i = ps.getD i 0 ∧ pB (sides e cr ps ws) i = ps.getD i 0 := by
  rw [sides_A hi, sides_B hi]
  unfold stepAt
  rw [if_pos hw]
  have := g.ap.lo i hi
  have := g.ap.hi i hi
  omega
theorem Giv.step1 {i : Nat} (hi : i < ps.length) (hw : ws.getD i false = false) : pA (sides e cr ps ws) i = max 0 (ps.getD i 0 - pA cr i) ∧ pB (sides e cr ps ws) i = min e (ps.getD i 0 + pA cr i) := by
  rw [sides_A hi, sides_B hi]
  unfold stepAt
  rw [if_neg (by rw [hw]; exact Bool.false_ne_true)]
  exact ⟨rfl, rfl⟩
end

/-! promises of the second part -/
def wsD (ws : List Bool) : D := .lst (ws.map D.bl)
def gsD (gs : List (Option Int)) : D := .lst (gs.map goalD)
def loD (S : PS) : List D := S.map fun p => D.int p.1
def hiD (S : PS) : List D := S.map fun p => D.int p.2
def nat (c : Nat) : D := .int (c : Int)
def R_Rail_are_apart (c_Rail : Addr) : List D → D → Prop := fun ds d => ∃ e r cr ps, ds = [.obj c_Rail (railFs e r cr), .lst (ps.map D.int)] ∧ RailOk e r cr ∧ Ap e r ps ∧ ps.length = cr.length ∧ d = .bl true
theorem ln_Rail_are_apart {c_Rail : Addr} {ds : List D} {d : D} (h : R_Rail_are_apart c_Rail ds d) : ds.length = 2 := by
  obtain ⟨e, r, cr, ps, rfl, _⟩ := h
  rfl
def R_bounds (c_Rail : Addr) : List D → List D → List D → Prop := fun ds l m => ∃ e r cr ps ws, ds = [.obj c_Rail (railFs e r cr), .lst (ps.map D.int), wsD ws] ∧ RailOk e r cr ∧ ps.length = cr.length ∧ ws.length = cr.length ∧ l = loD (sides e cr ps ws) ∧ m = hiD (sides e cr ps ws)
theorem ln_bounds {c_Rail : Addr} {ds l m : List D} (h : R_bounds c_Rail ds l m) : ds.length = 3 := by
  obtain ⟨e, r, cr, ps, ws, rfl, _⟩ := h
  rfl
def R_span_within : List D → D → Prop := fun ds d => ∃ (S : PS) (r : Int) (c : Nat), ds = [.lst (loD S), .lst (hiD S), .int r, nat c] ∧ (1 ≤ r ∧ r ≤ 1000000) ∧ c < S.length ∧ S.length ≤ 6 ∧ d = .tup [.int (lowE r S c), .int (highE r S c)]
theorem ln_span_within {ds : List D} {d : D} (h : R_span_within ds d) : ds.length = 4 := by
  obtain ⟨S, r, c, rfl, _⟩ := h
  rfl
def R_l_ends : List D → D → Prop := fun ds d => ∃ (S : PS) (r : Int) (c : Nat), ds = [.int r, .lst (S.map crD), nat c] ∧ c < S.length ∧ S.length ≤ 6 ∧ d = .tup [.int (lowE r S c), .int (highE r S c)]
theorem ln_l_ends {ds : List D} {d : D} (h : R_l_ends ds d) : ds.length = 3 := by
  obtain ⟨S, r, c, rfl, _⟩ := h
  rfl
/-- what a step is handed -/
structure Hand (e r : Int) (cr : List (Int × Int)) (ps : List Int) (ws : List Bool) (gs : List (Option Int)) (rk : List Nat) : Prop where
  ok : RailOk e r cr
  ap : Ap e r ps
  lp : ps.length = cr.length
  lw : ws.length = cr.length
  lg : gs.length = cr.length
  lr : rk.length = cr.length
  hr : ∀ c ∈ rk, c < cr.length
def due (e r : Int) (cr : List (Int × Int)) (ps : List Int) (ws : List Bool) (gs : List (Option Int)) (rk : List Nat) : PS := fst r ps gs rk (sides e cr ps ws) rk.length
def R_moved (c_Rail : Addr) : List D → List D → Prop := fun ds l => ∃ e r cr ps ws gs rk, ds = [.obj c_Rail (railFs e r cr), .lst (ps.map D.int), wsD ws, gsD gs, .lst (rk.map nat)] ∧ Hand e r cr ps ws gs rk ∧ l = loD (due e r cr ps ws gs rk)
theorem ln_moved {c_Rail : Addr} {ds : List D} {d : List D} (h : R_moved c_Rail ds d) : ds.length = 5 := by
  obtain ⟨e, r, cr, ps, ws, gs, rk, rfl, _⟩ := h
  rfl
def R_l_due : List D → List D → Prop := fun ds l => ∃ e r cr ps ws gs rk, ds = [.tup [.int e, .int r, .lst (cr.map crD)], .lst (ps.map D.int), wsD ws, gsD gs, .lst (rk.map nat)] ∧ Hand e r cr ps ws gs rk ∧ l = loD (due e r cr ps ws gs rk)
theorem ln_l_due {ds : List D} {d : List D} (h : R_l_due ds d) : ds.length = 5 := by
  obtain ⟨e, r, cr, ps, ws, gs, rk, rfl, _⟩ := h
  rfl
def sp_Rail_are_apart (K : PySem.W.Frag) (c_Rail : Addr) : Sp := spD K (R_Rail_are_apart c_Rail)
def sp_bounds (K : PySem.W.Frag) (c_Rail : Addr) : Sp := spO2 K (R_bounds c_Rail)
def sp_span_within (K : PySem.W.Frag) (c_Rail : Addr) : Sp := spD K R_span_within
def sp_l_ends (K : PySem.W.Frag) (c_Rail : Addr) : Sp := spD K R_l_ends
def sp_moved (K : PySem.W.Frag) (c_Rail : Addr) : Sp := spO K (R_moved c_Rail)
def sp_l_due (K : PySem.W.Frag) (c_Rail : Addr) : Sp := spO K R_l_due
section
variable {K : PySem.W.Frag} {c_Rail : Addr} {vs : List V} {H : Hp} {Q : VK} {E : XK}
theorem len_Rail_are_apart (h : sp_Rail_are_apart K c_Rail vs H Q E) : vs.length = 2 := spD_len (fun _ _ => ln_Rail_are_apart) h
theorem len_bounds (h : sp_bounds K c_Rail vs H Q E) : vs.length = 3 := spO2_len (fun _ _ _ => ln_bounds) h
theorem len_span_within (h : sp_span_within K c_Rail vs H Q E) : vs.length = 4 := spD_len (fun _ _ => ln_span_within) h
theorem len_l_ends (h : sp_l_ends K c_Rail vs H Q E) : vs.length = 3 := spD_len (fun _ _ => ln_l_ends) h
theorem len_moved (h : sp_moved K c_Rail vs H Q E) : vs.length = 5 := spO_len (fun _ _ => ln_moved) h
theorem len_l_due (h : sp_l_due K c_Rail vs H Q E) : vs.length = 5 := spO_len (fun _ _ => ln_l_due) h
end

/-! the law's own rail -/
def rN (ns : List Int) : Nat := (1 + mx ns 0 % 6).toNat
def rR (ns : List Int) (s : Int) : Int := s * (1 + mx ns 0 / 6 % 4)
def farL : List Int := [0, 100000000007, 999000000000]
def rFar (ns : List Int) (s : Int) : Int := farL.getD (mx ns 1 / 3 % 3).toNat 0 * (if decide (1 < s) then 1 else 0)
def atf (ns : List Int) (s : Int) : Nat → Int
  | 0 => rFar ns s + s * (mx ns 1 % 5)
  | k + 1 => atf ns s k + rR ns s + s * (mx ns 1 / (5 + 7 * (k : Int)) % 6) + mx ns 2 / (3 + (k : Int)) % s
def rP (ns : List Int) (s : Int) : List Int := (List.range (rN ns)).map (atf ns s)
def rE (ns : List Int) (s : Int) : Int := atf ns s (rN ns - 1) + s * (1 + mx ns 2 / 40 % 9)
def crf (ns : List Int) (s : Int) (k : Nat) : Int × Int := (s * (1 + mx ns 3 / (1 + 5 * (k : Int)) % 5), 1 + mx ns 3 / (2 + 3 * (k : Int)) % 1000)
def rC (ns : List Int) (s : Int) : List (Int × Int) := (List.range (rN ns)).map (crf ns s)
def Scl (s : Int) : Prop := s = 1 ∨ s = 1000 ∨ s = 250000
theorem rN_in (ns : List Int) : 1 ≤ rN ns ∧ rN ns ≤ 6 ∧ ((rN ns : Nat) : Int) = 1 + mx ns 0 % 6 := by
  have h0 : 0 ≤ mx ns 0 % 6 := Int.emod_nonneg _ (by decide)
  have h1 : mx ns 0 % 6 < 6 := Int.emod_lt_of_pos _ (by decide)
  unfold rN
  omega
theorem rR_in (ns : List Int) {s : Int} (h : Scl s) : 1 ≤ rR ns s ∧ rR ns s ≤ 1000000 ∧ s ≤ rR ns s ∧ rR ns s ≤ 4 * s := by
  have h0 : 0 ≤ mx ns 0 / 6 % 4 := Int.emod_nonneg _ (by decide)
  have h1 : mx ns 0 / 6 % 4 < 4 := Int.emod_lt_of_pos _ (by decide)
  unfold rR
  rcases h with rfl | rfl | rfl <;> omega
theorem farL_in (i : Nat) : 0 ≤ farL.getD i 0 ∧ farL.getD i 0 ≤ 999000000000 := by
  match i with
  | 0 => decide
  | 1 => decide
  | 2 => decide
  | i + 3 => exact (by decide : (0 : Int) ≤ 0 ∧ (0 : Int) ≤ 999000000000)
theorem rFar_in (ns : List Int) (s : Int) : 0 ≤ rFar ns s ∧ rFar ns s ≤ 999000000000 := by
  have h := farL_in (mx ns 1 / 3 % 3).toNat
  unfold rFar
  split <;> omega
theorem atf_step (ns : List Int) {s : Int} (h : Scl s) (k : Nat) : atf ns s k + rR ns s ≤ atf ns s (k + 1) ∧ atf ns s (k + 1) ≤ atf ns s k + 10 * s := by
  have h0 : 0 ≤ mx ns 1 / (5 + 7 * (k : Int)) % 6 := Int.emod_nonneg _ (by decide)
  have h1 : mx ns 1 / (5 + 7 * (k : Int)) % 6 < 6 := Int.emod_lt_of_pos _ (by decide)
  have hr := rR_in ns h
  show _ ≤ atf ns s k + rR ns s + s * (mx ns 1 / (5 + 7 * (k : Int)) % 6) + mx ns 2 / (3 + (k : Int)) % s ∧ atf ns s k + rR ns s + s * (mx ns 1 / (5 + 7 * (k : Int)) % 6) + mx ns 2 / (3 + (k : Int)) % s ≤ _
  have hs : 0 < s := by rcases h with rfl | rfl | rfl <;> decide
  have h2 : 0 ≤ mx ns 2 / (3 + (k : Int)) % s := Int.emod_nonneg _ (by omega)
  have h3 : mx ns 2 / (3 + (k : Int)) % s < s := Int.emod_lt_of_pos _ hs
  generalize mx ns 2 / (3 + (k : Int)) % s = y at h2 h3
  generalize mx ns 1 / (5 + 7 * (k : Int)) % 6 = x at h0 h1
  rcases h with rfl | rfl | rfl <;> omega
theorem atf_in (ns : List Int) {s : Int} (h : Scl s) : ∀ k : Nat, (k : Int) * rR ns s ≤ atf ns s k ∧ 0 ≤ atf ns s k ∧ atf ns s k ≤ 999000000000 + 4 * s + 10 * s * k
  | 0 => by
    have h0 : 0 ≤ mx ns 1 % 5 := Int.emod_nonneg _ (by decide)
    have h1 : mx ns 1 % 5 < 5 := Int.emod_lt_of_pos _ (by decide)
    have hf := rFar_in ns s
    show ((0 : Nat) : Int) * _ ≤ rFar ns s + s * (mx ns 1 % 5) ∧ 0 ≤ rFar ns s + s * (mx ns 1 % 5) ∧ rFar ns s + s * (mx ns 1 % 5) ≤ _
    generalize mx ns 1 % 5 = x at h0 h1
    rw [show (((0 : Nat) : Int)) = 0 from rfl, Int.zero_mul]
    rcases h with rfl | rfl | rfl <;> omega
  | k + 1 => by
    obtain ⟨i1, i2, i3⟩ := atf_in ns h k
    have st := atf_step ns h k
    have hr := rR_in ns h
    have e : ((k + 1 : Nat) : Int) * rR ns s = (k : Int) * rR ns s + rR ns s := by
      rw [Int.natCast_add, Int.add_mul]
      show _ + 1 * _ = _
      rw [Int.one_mul]
    rw [e]
    refine ⟨by omega, by omega, ?_⟩
    rcases h with rfl | rfl | rfl <;> omega
theorem rP_len (ns : List Int) (s : Int) : (rP ns s).length = rN ns := by
  unfold rP
  rw [List.length_map, List.length_range]
theorem rC_len (ns : List Int) (s : Int) : (rC ns s).length = rN ns := by
  unfold rC
  rw [List.length_map, List.length_range]
theorem rP_get (ns : List Int) (s : Int) {i : Nat} (h : i < rN ns) : (rP ns s).getD i 0 = atf ns s i := by
  unfold rP
  rw [List.getD_eq_getElem?_getD, List.getElem?_map, List.getElem?_range h]
  rfl
theorem rC_get (ns : List Int) (s : Int) {i : Nat} (h : i < rN ns) : (rC ns s).getD i (0, 0) = crf ns s i := by
  unfold rC
  rw [List.getD_eq_getElem?_getD, List.getElem?_map, List.getElem?_range h]
  rfl
theorem rE_gt (ns : List Int) {s : Int} (h : Scl s) : atf ns s (rN ns - 1) + s ≤ rE ns s ∧ rE ns s ≤ atf ns s (rN ns - 1) + 9 * s := by
  have h0 : 0 ≤ mx ns 2 / 40 % 9 := Int.emod_nonneg _ (by decide)
  have h1 : mx ns 2 / 40 % 9 < 9 := Int.emod_lt_of_pos _ (by decide)
  unfold rE
  generalize mx ns 2 / 40 % 9 = x at h0 h1
  rcases h with rfl | rfl | rfl <;> omega
theorem atf_mono (ns : List Int) {s : Int} (h : Scl s) (i : Nat) : ∀ d, atf ns s i ≤ atf ns s (i + d)
  | 0 => Int.le_refl _
  | d + 1 => by
    have := atf_mono ns h i d
    have st := (atf_step ns h (i + d)).1
    have hr := rR_in ns h
    show atf ns s i ≤ atf ns s (i + d + 1)
    omega
theorem rail_ok (ns : List Int) {s : Int} (h : Scl s) : RailOk (rE ns s) (rR ns s) (rC ns s) := by
  have hn := rN_in ns
  have hr := rR_in ns h
  have he := rE_gt ns h
  have ha := atf_in ns h (rN ns - 1)
  have hs : 0 < s ∧ s ≤ 250000 := by rcases h with rfl | rfl | rfl <;> decide
  refine ⟨by omega, ?_, hr.1, hr.2.1, by rw [rC_len]; exact hn.1, by rw [rC_len]; exact hn.2.1, fun p hp => ?_, ?_⟩
  · have : ((rN ns - 1 : Nat) : Int) ≤ 5 := by omega
    rcases h with rfl | rfl | rfl <;> omega
  · unfold rC at hp
    obtain ⟨i, _, rfl⟩ := List.mem_map.mp hp
    unfold crf
    have h0 : 0 ≤ mx ns 3 / (1 + 5 * (i : Int)) % 5 := Int.emod_nonneg _ (by decide)
    have h1 : mx ns 3 / (1 + 5 * (i : Int)) % 5 < 5 := Int.emod_lt_of_pos _ (by decide)
    have h2 : 0 ≤ mx ns 3 / (2 + 3 * (i : Int)) % 1000 := Int.emod_nonneg _ (by decide)
    have h3 : mx ns 3 / (2 + 3 * (i : Int)) % 1000 < 1000 := Int.emod_lt_of_pos _ (by decide)
    dsimp only
    generalize mx ns 3 / (1 + 5 * (i : Int)) % 5 = x at h0 h1
    refine ⟨?_, ?_, by omega, by omega⟩ <;> (rcases h with rfl | rfl | rfl <;> omega)
  · rw [rC_len]
    have e : ((rN ns : Nat) : Int) - 1 = ((rN ns - 1 : Nat) : Int) := by omega
    rw [e]
    omega
theorem rail_ap (ns : List Int) {s : Int} (h : Scl s) : Ap (rE ns s) (rR ns s) (rP ns s) := by
  have hn := rN_in ns
  have he := rE_gt ns h
  have hs : 0 < s := by rcases h with rfl | rfl | rfl <;> decide
  refine ⟨fun i hi => ?_, fun i hi => ?_, fun i hi => ?_⟩ <;> rw [rP_len] at hi
  · rw [rP_get ns s hi]
    exact (atf_in ns h i).2.1
  · rw [rP_get ns s hi]
    have := atf_mono ns h i (rN ns - 1 - i)
    have e : i + (rN ns - 1 - i) = rN ns - 1 := by omega
    rw [e] at this
    omega
  · rw [rP_get ns s hi, rP_get ns s (by omega)]
    exact (atf_step ns h i).1
def R_l_rail : List D → D → Prop := fun ds d => ∃ ns s, ds = [.scr ns, .int s] ∧ Scl s ∧ d = .tup [.int (rE ns s), .int (rR ns s), .lst ((rC ns s).map crD), .lst ((rP ns s).map D.int)]
theorem ln_l_rail {ds : List D} {d : D} (h : R_l_rail ds d) : ds.length = 2 := by
  obtain ⟨ns, s, rfl, _⟩ := h
  rfl
def sp_l_rail (K : PySem.W.Frag) (c_Rail : Addr) : Sp := spD K R_l_rail
theorem len_l_rail {K : PySem.W.Frag} {c_Rail : Addr} {vs : List V} {H : Hp} {Q : VK} {E : XK} (h : sp_l_rail K c_Rail vs H Q E) : vs.length = 2 := spD_len (fun _ _ => ln_l_rail) h

def R_span (c_Rail : Addr) : List D → D → Prop := fun ds d => ∃ e r cr ps ws c, ds = [.obj c_Rail (railFs e r cr), .lst (ps.map D.int), wsD ws, nat c] ∧ Giv e r cr ps ws ∧ c < ps.length ∧ d = .tup [.int (lowE r (sides e cr ps ws) c), .int (highE r (sides e cr ps ws) c)]
theorem ln_span {c_Rail : Addr} {ds : List D} {d : D} (h : R_span c_Rail ds d) : ds.length = 4 := by
  obtain ⟨e, r, cr, ps, ws, c, rfl, _⟩ := h
  rfl
def toldD (e r : Int) (cr : List (Int × Int)) : D := .tup [.int e, .int r, .lst (cr.map crD)]
def R_l_lows : List D → List D → Prop := fun ds l => ∃ e r cr ps ws, ds = [toldD e r cr, .lst (ps.map D.int), wsD ws] ∧ Giv e r cr ps ws ∧ l = (sq (lowE r (sides e cr ps ws)) ps.length).map D.int
theorem ln_l_lows {ds l : List D} (h : R_l_lows ds l) : ds.length = 3 := by
  obtain ⟨e, r, cr, ps, ws, rfl, _⟩ := h
  rfl
def R_l_highs : List D → List D → Prop := fun ds l => ∃ e r cr ps ws, ds = [toldD e r cr, .lst (ps.map D.int), wsD ws] ∧ Giv e r cr ps ws ∧ l = (sq (highE r (sides e cr ps ws)) ps.length).map D.int
theorem ln_l_highs {ds l : List D} (h : R_l_highs ds l) : ds.length = 3 := by
  obtain ⟨e, r, cr, ps, ws, rfl, _⟩ := h
  rfl
def R_l_is_let : List D → D → Prop := fun ds d => ∃ e r cr ps ws row, ds = [toldD e r cr, .lst (ps.map D.int), wsD ws, .lst (row.map D.int)] ∧ Giv e r cr ps ws ∧ row.length = ps.length ∧ d = .bl (isLet e r cr ps row ws)
theorem ln_l_is_let {ds : List D} {d : D} (h : R_l_is_let ds d) : ds.length = 4 := by
  obtain ⟨e, r, cr, ps, ws, row, rfl, _⟩ := h
  rfl
def R_l_by : List D → List D → Prop := fun ds l => ∃ e r cr ps ws c p, ds = [toldD e r cr, .lst (ps.map D.int), wsD ws, nat c, .int p] ∧ c < ps.length ∧ ps.length ≤ 6 ∧ l = (byR r ps c p).map D.int
theorem ln_l_by {ds l : List D} (h : R_l_by ds l) : ds.length = 5 := by
  obtain ⟨e, r, cr, ps, ws, c, p, rfl, _⟩ := h
  rfl
def R_law : List D → D → Prop := fun ds d => ∃ ns, ds = [.scr ns] ∧ d = .bl true
theorem ln_law {ds : List D} {d : D} (h : R_law ds d) : ds.length = 1 := by
  obtain ⟨ns, rfl, _⟩ := h
  rfl
def sp_span (K : PySem.W.Frag) (c_Rail : Addr) : Sp := spD K (R_span c_Rail)
def sp_l_lows (K : PySem.W.Frag) (c_Rail : Addr) : Sp := spO K R_l_lows
def sp_l_highs (K : PySem.W.Frag) (c_Rail : Addr) : Sp := spO K R_l_highs
def sp_l_is_let (K : PySem.W.Frag) (c_Rail : Addr) : Sp := spD K R_l_is_let
def sp_l_by (K : PySem.W.Frag) (c_Rail : Addr) : Sp := spO K R_l_by
def sp_law (K : PySem.W.Frag) : Sp := spD K R_law
section
variable {K : PySem.W.Frag} {c_Rail : Addr} {vs : List V} {H : Hp} {Q : VK} {E : XK}
theorem len_span (h : sp_span K c_Rail vs H Q E) : vs.length = 4 := spD_len (fun _ _ => ln_span) h
theorem len_l_lows (h : sp_l_lows K c_Rail vs H Q E) : vs.length = 3 := spO_len (fun _ _ => ln_l_lows) h
theorem len_l_highs (h : sp_l_highs K c_Rail vs H Q E) : vs.length = 3 := spO_len (fun _ _ => ln_l_highs) h
theorem len_l_is_let (h : sp_l_is_let K c_Rail vs H Q E) : vs.length = 4 := spD_len (fun _ _ => ln_l_is_let) h
theorem len_l_by (h : sp_l_by K c_Rail vs H Q E) : vs.length = 5 := spO_len (fun _ _ => ln_l_by) h
theorem len_law (h : sp_law K vs H Q E) : vs.length = 1 := spD_len (fun _ _ => ln_law) h
end

/-! the program's own lows and highs -/
def R_lows (c_Rail : Addr) : List D → List D → Prop := fun ds l => ∃ e r cr ps ws, ds = [.obj c_Rail (railFs e r cr), .lst (ps.map D.int), wsD ws] ∧ Giv e r cr ps ws ∧ l = (sq (lowE r (sides e cr ps ws)) ps.length).map D.int
theorem ln_lows {c_Rail : Addr} {ds l : List D} (h : R_lows c_Rail ds l) : ds.length = 3 := by
  obtain ⟨e, r, cr, ps, ws, rfl, _⟩ := h
  rfl
def R_highs (c_Rail : Addr) : List D → List D → Prop := fun ds l => ∃ e r cr ps ws, ds = [.obj c_Rail (railFs e r cr), .lst (ps.map D.int), wsD ws] ∧ Giv e r cr ps ws ∧ l = (sq (highE r (sides e cr ps ws)) ps.length).map D.int
theorem ln_highs {c_Rail : Addr} {ds l : List D} (h : R_highs c_Rail ds l) : ds.length = 3 := by
  obtain ⟨e, r, cr, ps, ws, rfl, _⟩ := h
  rfl
def sp_lows (K : PySem.W.Frag) (c_Rail : Addr) : Sp := spO K (R_lows c_Rail)
def sp_highs (K : PySem.W.Frag) (c_Rail : Addr) : Sp := spO K (R_highs c_Rail)
section
variable {K : PySem.W.Frag} {c_Rail : Addr} {vs : List V} {H : Hp} {Q : VK} {E : XK}
theorem len_lows (h : sp_lows K c_Rail vs H Q E) : vs.length = 3 := spO_len (fun _ _ => ln_lows) h
theorem len_highs (h : sp_highs K c_Rail vs H Q E) : vs.length = 3 := spO_len (fun _ _ => ln_highs) h
end
/-- how far the cranes before push -/
def pshL (r : Int) (S : PS) : Nat → Int
  | 0 => 0
  | k + 1 => lowE r S k + r
def pshH (e r : Int) (S : PS) (n : Nat) : Nat → Int
  | 0 => e
  | j + 1 => highD r S n j - r
theorem highD_le (r : Int) (S : PS) (n : Nat) : ∀ j, highD r S n j ≤ pB S (n - 1 - j)
  | 0 => Int.le_refl _
  | j + 1 => by
    show min (pB S (n - 1 - (j + 1))) _ ≤ _
    omega
section
variable {e r : Int} {cr : List (Int × Int)} {ps : List Int} {ws : List Bool} (g : Giv e r cr ps ws)
include g
theorem Giv.low_at {i : Nat} (hi : i < ps.length) : max (pshL r (sides e cr ps ws) i) (if ws.getD i false then ps.getD i 0 else ps.getD i 0 - pA cr i) = lowE r (sides e cr ps ws) i := by
  have h0 : pA (sides e cr ps ws) i = max 0 (if ws.getD i false then ps.getD i 0 else ps.getD i 0 - pA cr i) := by
    rw [sides_A hi]
    unfold stepAt
    split <;> omega
  cases i with
  | zero =>
    show max 0 _ = pA _ 0
    rw [h0]
  | succ i =>
    have h1 := g.spn.lo i (by omega)
    have h2 := lowE_ge r (sides e cr ps ws) i
    have h3 := g.ok.r1
    show max (lowE r (sides e cr ps ws) i + r) _ = max (pA (sides e cr ps ws) (i + 1)) (lowE r (sides e cr ps ws) i + r)
    rw [h0]
    omega
theorem Giv.high_at {j : Nat} (hj : j < ps.length) : min (pshH e r (sides e cr ps ws) ps.length j) (ps.getD (ps.length - 1 - j) 0 + stepAt cr ws (ps.length - 1 - j)) = highD r (sides e cr ps ws) ps.length j := by
  have h0 := sides_B (e := e) (cr := cr) (ps := ps) (ws := ws) (i := ps.length - 1 - j) (by omega)
  cases j with
  | zero =>
    show min e _ = pB _ (ps.length - 1)
    exact h0.symm
  | succ j =>
    have h1 := g.spn.hi (ps.length - 1 - j) (by omega)
    have h2 := highD_le r (sides e cr ps ws) ps.length j
    have h3 := g.ok.r1
    show min (highD r (sides e cr ps ws) ps.length j - r) _ = min (pB (sides e cr ps ws) (ps.length - 1 - (j + 1))) (highD r (sides e cr ps ws) ps.length j - r)
    rw [h0]
    omega
end

def top (i : Nat) : Stmt := PySem.Challenge.pw_craneyard_k04_spans.main.body.getD i (.Pass ⟨0, 0, 0, 0⟩)
structure CF (K : PySem.W.Frag) (c_Rail : Addr) : Prop where
  cl_Rail : Cls K c_Rail
  n_Rail_end : NoAttr K c_Rail "end"
  n_Rail_room : NoAttr K c_Rail "room"
  n_Rail_cranes : NoAttr K c_Rail "cranes"

abbrev s_is_among : Stmt := (top 9)
abbrev nm_is_among : List Str := ["thing", "least", "most"]
theorem sc_is_among : FnScope nm_is_among ["thing", "least", "most"] (defScope s_is_among) := ⟨rfl, rfl, rfl, by decide +kernel, rfl, by decide +kernel, by decide +kernel⟩
def t_is_among (K : PySem.W.Frag) (c_Rail : Addr) : TS := (tSeq (tIfS (tOr (tNot (tB (tCB (rIsi K) (tCons (tVar 0) (tCons (tC (.ty "int")) tNil))))) (tB (tCB (rIsi K) (tCons (tVar 0) (tCons (tC (.ty "bool")) tNil))))) (tRet (tC (.bl false))) tNext)
  (tRet (tChain (gLe) (gLe) (tVar 1) (tVar 0) (tVar 2))))

abbrev s_is_crane : Stmt := (top 18)
abbrev nm_is_crane : List Str := ["thing", "speed", "hoist"]
theorem sc_is_crane : FnScope nm_is_crane ["thing"] (defScope s_is_crane) := ⟨rfl, rfl, rfl, by decide +kernel, rfl, by decide +kernel, by decide +kernel⟩
def t_is_crane (K : PySem.W.Frag) (c_Rail : Addr) : TS := (tSeq (tIfS (tOr (tNot (tB (tCB (rIsi K) (tCons (tVar 0) (tCons (tC (.ty "tuple")) tNil))))) (tTest (tOp (gNe K) (tCB (rLen K) (tCons (tVar 0) tNil)) (tC (.int 2))))) (tRet (tC (.bl false))) tNext)
  (tSeq (tAsg (tVar 0) (gTup K 2 (gCons (gName 1) (gCons (gName 2) gNil))))
  (tRet (tAndV (tCall (sp_is_among K c_Rail) [] E0 (tCons (tVar 1) (tCons (tC (.int 1)) (tCons (tC (.int 1000000000)) tNil)))) (tCall (sp_is_among K c_Rail) [] E0 (tCons (tVar 2) (tCons (tC (.int 1)) (tCons (tC (.int 1000)) tNil))))))))

abbrev s_is_rail : Stmt := (top 17)
abbrev nm_is_rail : List Str := ["end", "room", "cranes", "crane"]
theorem sc_is_rail : FnScope nm_is_rail ["end", "room", "cranes"] (defScope s_is_rail) := ⟨rfl, rfl, rfl, by decide +kernel, rfl, by decide +kernel, by decide +kernel⟩
def t_is_rail (K : PySem.W.Frag) (c_Rail : Addr) : TS := (tSeq (tIfS (tOr (tNot (tB (tCall (sp_is_among K c_Rail) [] E0 (tCons (tVar 0) (tCons (tC (.int 1)) (tCons (tC (.int 1000000000000)) tNil)))))) (tNot (tB (tCall (sp_is_among K c_Rail) [] E0 (tCons (tVar 1) (tCons (tC (.int 1)) (tCons (tC (.int 1000000)) tNil))))))) (tRet (tC (.bl false))) tNext)
  (tSeq (tIfS (tOr (tNot (tB (tCB (rIsi K) (tCons (tVar 2) (tCons (tC (.ty "list")) tNil))))) (tNot (tTest (tChain (gLe) (gLe) (tC (.int 1)) (tCB (rLen K) (tCons (tVar 2) tNil)) (tC (.int 6)))))) (tRet (tC (.bl false))) tNext)
  (tSeq (tIfS (tNot (tB (tCB (rAll K) (tCons (tLc (iList K (tVar 2)) (gName 3) tYes (tCall (sp_is_crane K c_Rail) [] E0 (tCons (tVar 3) tNil)) [3]) tNil)))) (tRet (tC (.bl false))) tNext)
  (tRet (tOp (gLe) (tOp (gMul) (tOp (gSub) (tCB (rLen K) (tCons (tVar 2) tNil)) (tC (.int 1))) (tVar 1)) (tVar 0))))))

abbrev s_Rail_init : Stmt := (inClass (top 16) 0)
abbrev nm_Rail_init : List Str := ["self", "end", "room", "cranes", "speed", "hoist"]
theorem sc_Rail_init : FnScope nm_Rail_init ["self", "end", "room", "cranes"] (defScope s_Rail_init) := ⟨rfl, rfl, rfl, by decide +kernel, rfl, by decide +kernel, by decide +kernel⟩
def t_Rail_init (K : PySem.W.Frag) (c_Rail : Addr) : TS := (tSeq (tIfS (tNot (tB (tCall (sp_is_rail K c_Rail) [] E0 (tCons (tVar 1) (tCons (tVar 2) (tCons (tVar 3) tNil)))))) (tNever) tNext)
  (tSeq (sFld K (tVar 0) (tVar 1) "end")
  (tSeq (sFld K (tVar 0) (tVar 2) "room")
  (sFld K (tVar 0) (tCB (rTupOf K) (tCons (tLc (iList K (tVar 3)) (gTup K 2 (gCons (gName 4) (gCons (gName 5) gNil))) tYes (tTup (tCons (tVar 4) (tCons (tVar 5) tNil))) [4, 5]) tNil)) "cranes"))))

abbrev s_l_cell_at : Stmt := (top 20)
abbrev nm_l_cell_at : List Str := ["_law_script", "_law_k"]
theorem sc_l_cell_at : FnScope nm_l_cell_at ["_law_script", "_law_k"] (defScope s_l_cell_at) := ⟨rfl, rfl, rfl, by decide +kernel, rfl, by decide +kernel, by decide +kernel⟩
def t_l_cell_at (K : PySem.W.Frag) (c_Rail : Addr) : TS := (tSeq (tIfS (tTest (tOp (gLt) (tVar 1) (tCB (rLen K) (tCons (tVar 0) tNil)))) (tRet (tOp (gIx K) (tVar 0) (tVar 1))) tNext)
  (tRet (tC (.int 0))))

abbrev s_l_mixed : Stmt := (top 21)
abbrev nm_l_mixed : List Str := ["_law_script", "_law_k", "_law_cell", "_law_number"]
theorem sc_l_mixed : FnScope nm_l_mixed ["_law_script", "_law_k"] (defScope s_l_mixed) := ⟨rfl, rfl, rfl, by decide +kernel, rfl, by decide +kernel, by decide +kernel⟩
def t_l_mixed (K : PySem.W.Frag) (c_Rail : Addr) : TS := (tSeq (tAsg (tCall (sp_l_cell_at K c_Rail) [] E0 (tCons (tVar 0) (tCons (tVar 1) tNil))) (gName 2))
  (tSeq (tIfS (tAnd (tTest (tOp (gNe K) (tVar 0) (tLst tNil))) (tTest (tOp (gEq K) (tOp (gMod) (tOp (gIx K) (tVar 0) (tC (.int 0))) (tC (.int 2))) (tC (.int 1))))) (tRet (tOp (gFdv) (tOp (gMod) (tVar 2) (tOp (gMul) (tC (.int 2)) (tOp (gPow) (tC (.int 10)) (tC (.int 60))))) (tC (.int 2)))) tNext)
  (tSeq (tAsg (tOp (gMod) (tOp (gAdd K) (tOp (gAdd K) (tOp (gMul) (tVar 2) (tC (.int 48271))) (tOp (gMul) (tC (.int 7919)) (tVar 1))) (tC (.int 12345))) (tC (.int 2147483647))) (gName 3))
  (tRet (tOp (gMod) (tOp (gMul) (tVar 3) (tOp (gAdd K) (tVar 3) (tOp (gMul) (tC (.int 69621)) (tVar 1)))) (tC (.int 2147483629)))))))

abbrev s_l_rail : Stmt := (top 22)
abbrev nm_l_rail : List Str := ["_law_script", "_law_scale", "_law_many", "_law_room", "_law_places", "_law_far", "_law_at", "_law_k", "_law_end", "_law_cranes", "_law_speed"]
theorem sc_l_rail : FnScope nm_l_rail ["_law_script", "_law_scale"] (defScope s_l_rail) := ⟨rfl, rfl, rfl, by decide +kernel, rfl, by decide +kernel, by decide +kernel⟩
def t_l_rail (K : PySem.W.Frag) (c_Rail : Addr) : TS := (tSeq (tAsg (tOp (gAdd K) (tC (.int 1)) (tOp (gMod) (tCall (sp_l_mixed K c_Rail) [] E0 (tCons (tVar 0) (tCons (tC (.int 0)) tNil))) (tC (.int 6)))) (gName 2))
  (tSeq (tAsg (tOp (gMul) (tVar 1) (tOp (gAdd K) (tC (.int 1)) (tOp (gMod) (tOp (gFdv) (tCall (sp_l_mixed K c_Rail) [] E0 (tCons (tVar 0) (tCons (tC (.int 0)) tNil))) (tC (.int 6))) (tC (.int 4))))) (gName 3))
  (tSeq (tAsg (tLst tNil) (gName 4))
  (tSeq (tAsg (tOp (gMul) (tOp (gIx K) (tLst (tCons (tC (.int 0)) (tCons (tOp (gAdd K) (tOp (gPow) (tC (.int 10)) (tC (.int 11))) (tC (.int 7))) (tCons (tOp (gSub) (tOp (gPow) (tC (.int 10)) (tC (.int 12))) (tOp (gPow) (tC (.int 10)) (tC (.int 9)))) tNil)))) (tOp (gMod) (tOp (gFdv) (tCall (sp_l_mixed K c_Rail) [] E0 (tCons (tVar 0) (tCons (tC (.int 1)) tNil))) (tC (.int 3))) (tC (.int 3)))) (tCB (gInt) (tCons (tOp (gGt) (tVar 1) (tC (.int 1))) tNil))) (gName 5))
  (tSeq (tAsg (tOp (gAdd K) (tVar 5) (tOp (gMul) (tVar 1) (tOp (gMod) (tCall (sp_l_mixed K c_Rail) [] E0 (tCons (tVar 0) (tCons (tC (.int 1)) tNil))) (tC (.int 5))))) (gName 6))
  (tSeq (tFor (iRng1 (tCons (tVar 2) tNil)) (gName 7) (tSeq (tDrop (tBM K "list" rAppend (tVar 4) (tCons (tVar 6) tNil)))
  (tAsg (tOp (gAdd K) (tOp (gAdd K) (tOp (gAdd K) (tVar 6) (tVar 3)) (tOp (gMul) (tVar 1) (tOp (gMod) (tOp (gFdv) (tCall (sp_l_mixed K c_Rail) [] E0 (tCons (tVar 0) (tCons (tC (.int 1)) tNil))) (tOp (gAdd K) (tC (.int 5)) (tOp (gMul) (tC (.int 7)) (tVar 7)))) (tC (.int 6))))) (tOp (gMod) (tOp (gFdv) (tCall (sp_l_mixed K c_Rail) [] E0 (tCons (tVar 0) (tCons (tC (.int 2)) tNil))) (tOp (gAdd K) (tC (.int 3)) (tVar 7))) (tVar 1))) (gName 6))))
  (tSeq (tAsg (tOp (gAdd K) (tOp (gIx K) (tVar 4) (tUn (rU fun i => .int (-i)) (tC (.int 1)))) (tOp (gMul) (tVar 1) (tOp (gAdd K) (tC (.int 1)) (tOp (gMod) (tOp (gFdv) (tCall (sp_l_mixed K c_Rail) [] E0 (tCons (tVar 0) (tCons (tC (.int 2)) tNil))) (tC (.int 40))) (tC (.int 9)))))) (gName 8))
  (tSeq (tAsg (tLst tNil) (gName 9))
  (tSeq (tFor (iRng1 (tCons (tVar 2) tNil)) (gName 7) (tSeq (tAsg (tOp (gMul) (tVar 1) (tOp (gAdd K) (tC (.int 1)) (tOp (gMod) (tOp (gFdv) (tCall (sp_l_mixed K c_Rail) [] E0 (tCons (tVar 0) (tCons (tC (.int 3)) tNil))) (tOp (gAdd K) (tC (.int 1)) (tOp (gMul) (tC (.int 5)) (tVar 7)))) (tC (.int 5))))) (gName 10))
  (tDrop (tBM K "list" rAppend (tVar 9) (tCons (tTup (tCons (tVar 10) (tCons (tOp (gAdd K) (tC (.int 1)) (tOp (gMod) (tOp (gFdv) (tCall (sp_l_mixed K c_Rail) [] E0 (tCons (tVar 0) (tCons (tC (.int 3)) tNil))) (tOp (gAdd K) (tC (.int 2)) (tOp (gMul) (tC (.int 3)) (tVar 7)))) (tC (.int 1000)))) tNil))) tNil)))))
  (tRet (tTup (tCons (tVar 8) (tCons (tVar 3) (tCons (tVar 9) (tCons (tVar 4) tNil)))))))))))))))

abbrev s_lows : Stmt := (top 3)
abbrev nm_lows : List Str := ["rail", "places", "at_work", "lows", "pushed", "place", "works", "speed", "_", "least"]
theorem sc_lows : FnScope nm_lows ["rail", "places", "at_work"] (defScope s_lows) := ⟨rfl, rfl, rfl, by decide +kernel, rfl, by decide +kernel, by decide +kernel⟩
def t_lows (K : PySem.W.Frag) (c_Rail : Addr) : TS := (tSeq (tAsg (tLst tNil) (gName 3))
  (tSeq (tAsg (tC (.int 0)) (gName 4))
  (tSeq (tFor (iZip3 K (tCons (tVar 1) (tCons (tVar 2) (tCons (tFld K (tVar 0) "cranes") tNil)))) (gTup K 3 (gCons (gName 5) (gCons (gName 6) (gCons (gTup K 2 (gCons (gName 7) (gCons (gName 8) gNil))) gNil)))) (tSeq (tAsg (tCB (gMax K) (tCons (tVar 4) (tCons (tIf (tB (tVar 6)) (tVar 5) (tOp (gSub) (tVar 5) (tVar 7))) tNil))) (gName 9))
  (tSeq (tDrop (tBM K "list" rAppend (tVar 3) (tCons (tVar 9) tNil)))
  (tAsg (tOp (gAdd K) (tVar 9) (tFld K (tVar 0) "room")) (gName 4)))))
  (tRet (tVar 3)))))

abbrev s_highs : Stmt := (top 4)
abbrev nm_highs : List Str := ["rail", "places", "at_work", "highs", "pushed", "crane", "step", "greatest"]
theorem sc_highs : FnScope nm_highs ["rail", "places", "at_work"] (defScope s_highs) := ⟨rfl, rfl, rfl, by decide +kernel, rfl, by decide +kernel, by decide +kernel⟩
def t_highs (K : PySem.W.Frag) (c_Rail : Addr) : TS := (tSeq (tAsg (tLst tNil) (gName 3))
  (tSeq (tAsg (tFld K (tVar 0) "end") (gName 4))
  (tSeq (tFor (iRng3 (tCons (tOp (gSub) (tCB (rLen K) (tCons (tVar 1) tNil)) (tC (.int 1))) (tCons (tUn (rU fun i => .int (-i)) (tC (.int 1))) (tCons (tUn (rU fun i => .int (-i)) (tC (.int 1))) tNil)))) (gName 5) (tSeq (tAsg (tIf (tB (tOp (gIx K) (tVar 2) (tVar 5))) (tC (.int 0)) (tOp (gIx K) (tOp (gIx K) (tFld K (tVar 0) "cranes") (tVar 5)) (tC (.int 0)))) (gName 6))
  (tSeq (tAsg (tCB (gMin K) (tCons (tVar 4) (tCons (tOp (gAdd K) (tOp (gIx K) (tVar 1) (tVar 5)) (tVar 6)) tNil))) (gName 7))
  (tSeq (tDrop (tBM K "list" rAppend (tVar 3) (tCons (tVar 7) tNil)))
  (tAsg (tOp (gSub) (tVar 7) (tFld K (tVar 0) "room")) (gName 4))))))
  (tSeq (tDrop (tBM0 K "list" rReverse (tVar 3)))
  (tRet (tVar 3))))))

abbrev s_span : Stmt := (top 2)
abbrev nm_span : List Str := ["rail", "places", "at_work", "crane"]
theorem sc_span : FnScope nm_span ["rail", "places", "at_work", "crane"] (defScope s_span) := ⟨rfl, rfl, rfl, by decide +kernel, rfl, by decide +kernel, by decide +kernel⟩
def t_span (K : PySem.W.Frag) (c_Rail : Addr) : TS := (tRet (tTup (tCons (tOp (gIx K) (tCall (sp_lows K c_Rail) [] E0 (tCons (tVar 0) (tCons (tVar 1) (tCons (tVar 2) tNil)))) (tVar 3)) (tCons (tOp (gIx K) (tCall (sp_highs K c_Rail) [] E0 (tCons (tVar 0) (tCons (tVar 1) (tCons (tVar 2) tNil)))) (tVar 3)) tNil))))

abbrev s_l_lows : Stmt := (top 25)
abbrev nm_l_lows : List Str := ["_law_rail_here", "_law_places", "_law_works", "_law_end", "_law_room", "_law_cranes", "_law_found", "_law_k", "_law_place", "_law_low"]
theorem sc_l_lows : FnScope nm_l_lows ["_law_rail_here", "_law_places", "_law_works"] (defScope s_l_lows) := ⟨rfl, rfl, rfl, by decide +kernel, rfl, by decide +kernel, by decide +kernel⟩
def t_l_lows (K : PySem.W.Frag) (c_Rail : Addr) : TS := (tSeq (tAsg (tVar 0) (gTup K 3 (gCons (gName 3) (gCons (gName 4) (gCons (gName 5) gNil)))))
  (tSeq (tAsg (tLst tNil) (gName 6))
  (tSeq (tFor (iEnum K (tCons (tVar 1) tNil)) (gTup K 2 (gCons (gName 7) (gCons (gName 8) gNil))) (tSeq (tAsg (tIf (tB (tOp (gIx K) (tVar 2) (tVar 7))) (tVar 8) (tCB (gMax K) (tCons (tC (.int 0)) (tCons (tOp (gSub) (tVar 8) (tOp (gIx K) (tOp (gIx K) (tVar 5) (tVar 7)) (tC (.int 0)))) tNil)))) (gName 9))
  (tDrop (tBM K "list" rAppend (tVar 6) (tCons (tIf (tTest (tOp (gEq K) (tVar 6) (tLst tNil))) (tVar 9) (tCB (gMax K) (tCons (tVar 9) (tCons (tOp (gAdd K) (tOp (gIx K) (tVar 6) (tUn (rU fun i => .int (-i)) (tC (.int 1)))) (tVar 4)) tNil)))) tNil)))))
  (tRet (tVar 6)))))

abbrev s_l_highs : Stmt := (top 26)
abbrev nm_l_highs : List Str := ["_law_rail_here", "_law_places", "_law_works", "_law_end", "_law_room", "_law_cranes", "_law_found", "_law_k", "_law_high"]
theorem sc_l_highs : FnScope nm_l_highs ["_law_rail_here", "_law_places", "_law_works"] (defScope s_l_highs) := ⟨rfl, rfl, rfl, by decide +kernel, rfl, by decide +kernel, by decide +kernel⟩
def t_l_highs (K : PySem.W.Frag) (c_Rail : Addr) : TS := (tSeq (tAsg (tVar 0) (gTup K 3 (gCons (gName 3) (gCons (gName 4) (gCons (gName 5) gNil)))))
  (tSeq (tAsg (tLst tNil) (gName 6))
  (tSeq (tFor (iRevR (tRg1 (tCB (rLen K) (tCons (tVar 1) tNil)))) (gName 7) (tSeq (tAsg (tIf (tB (tOp (gIx K) (tVar 2) (tVar 7))) (tOp (gIx K) (tVar 1) (tVar 7)) (tCB (gMin K) (tCons (tVar 3) (tCons (tOp (gAdd K) (tOp (gIx K) (tVar 1) (tVar 7)) (tOp (gIx K) (tOp (gIx K) (tVar 5) (tVar 7)) (tC (.int 0)))) tNil)))) (gName 8))
  (tDrop (tBM K "list" rAppend (tVar 6) (tCons (tIf (tTest (tOp (gEq K) (tVar 6) (tLst tNil))) (tVar 8) (tCB (gMin K) (tCons (tVar 8) (tCons (tOp (gSub) (tOp (gIx K) (tVar 6) (tUn (rU fun i => .int (-i)) (tC (.int 1)))) (tVar 4)) tNil)))) tNil)))))
  (tRet (tRevL K (tVar 6))))))

abbrev s_l_is_let : Stmt := (top 27)
abbrev nm_l_is_let : List Str := ["_law_rail_here", "_law_places", "_law_works", "_law_row", "_law_end", "_law_room", "_law_cranes", "_law_k", "_law_place", "_law_far"]
theorem sc_l_is_let : FnScope nm_l_is_let ["_law_rail_here", "_law_places", "_law_works", "_law_row"] (defScope s_l_is_let) := ⟨rfl, rfl, rfl, by decide +kernel, rfl, by decide +kernel, by decide +kernel⟩
def t_l_is_let (K : PySem.W.Frag) (c_Rail : Addr) : TS := (tSeq (tAsg (tVar 0) (gTup K 3 (gCons (gName 4) (gCons (gName 5) (gCons (gName 6) gNil)))))
  (tSeq (tFor (iEnum K (tCons (tVar 3) tNil)) (gTup K 2 (gCons (gName 7) (gCons (gName 8) gNil))) (tSeq (tAsg (tIf (tB (tOp (gIx K) (tVar 2) (tVar 7))) (tC (.int 0)) (tOp (gIx K) (tOp (gIx K) (tVar 6) (tVar 7)) (tC (.int 0)))) (gName 9))
  (tIfS (tOr (tNot (tTest (tChain (gLe) (gLe) (tC (.int 0)) (tVar 8) (tVar 4)))) (tNot (tTest (tChain (gLe) (gLe) (tOp (gSub) (tOp (gIx K) (tVar 1) (tVar 7)) (tVar 9)) (tVar 8) (tOp (gAdd K) (tOp (gIx K) (tVar 1) (tVar 7)) (tVar 9)))))) (tRet (tC (.bl false))) tNext)))
  (tRet (tCB (rAll K) (tCons (tLc (iRng2 (tCons (tC (.int 1)) (tCons (tCB (rLen K) (tCons (tVar 3) tNil)) tNil))) (gName 7) tYes (tOp (gGe) (tOp (gSub) (tOp (gIx K) (tVar 3) (tVar 7)) (tOp (gIx K) (tVar 3) (tOp (gSub) (tVar 7) (tC (.int 1))))) (tVar 5)) [7]) tNil)))))

abbrev s_l_by : Stmt := (top 28)
abbrev nm_l_by : List Str := ["_law_rail_here", "_law_places", "_law_works", "_law_crane", "_law_place", "_law_room", "_law_row", "_law_k"]
theorem sc_l_by : FnScope nm_l_by ["_law_rail_here", "_law_places", "_law_works", "_law_crane", "_law_place"] (defScope s_l_by) := ⟨rfl, rfl, rfl, by decide +kernel, rfl, by decide +kernel, by decide +kernel⟩
def t_l_by (K : PySem.W.Frag) (c_Rail : Addr) : TS := (tSeq (tAsg (tOp (gIx K) (tVar 0) (tC (.int 1))) (gName 5))
  (tSeq (tAsg (tCB (rListOf K) (tCons (tVar 1) tNil)) (gName 6))
  (tSeq (tAsg (tVar 4) (gSub (tVar 6) (tVar 3) rSetL))
  (tSeq (tFor (iRng2 (tCons (tOp (gAdd K) (tVar 3) (tC (.int 1))) (tCons (tCB (rLen K) (tCons (tVar 6) tNil)) tNil))) (gName 7) (tAsg (tCB (gMax K) (tCons (tOp (gIx K) (tVar 6) (tVar 7)) (tCons (tOp (gAdd K) (tOp (gIx K) (tVar 6) (tOp (gSub) (tVar 7) (tC (.int 1)))) (tVar 5)) tNil))) (gSub (tVar 6) (tVar 7) rSetL)))
  (tSeq (tFor (iRevR (tRg1 (tVar 3))) (gName 7) (tAsg (tCB (gMin K) (tCons (tOp (gIx K) (tVar 6) (tVar 7)) (tCons (tOp (gSub) (tOp (gIx K) (tVar 6) (tOp (gAdd K) (tVar 7) (tC (.int 1)))) (tVar 5)) tNil))) (gSub (tVar 6) (tVar 7) rSetL)))
  (tRet (tVar 6)))))))

abbrev s_law : Stmt := (top 29)
abbrev nm_law : List Str := ["_law_script", "_law_scale", "_law_end", "_law_room", "_law_cranes", "_law_places", "_law_rail_here", "_law_told", "_law_k", "_law_number", "_law_works", "_law_crane", "_law_handed", "_law_lows_here", "_law_highs_here", "_law_due", "_law_again", "_law_found", "_law_place"]
theorem sc_law : FnScope nm_law ["_law_script"] (defScope s_law) := ⟨rfl, rfl, rfl, by decide +kernel, rfl, by decide +kernel, by decide +kernel⟩
def t_law (K : PySem.W.Frag) (c_Rail : Addr) : TS := (tSeq (tAsg (tOp (gIx K) (tLst (tCons (tC (.int 1)) (tCons (tC (.int 1)) (tCons (tC (.int 1000)) (tCons (tC (.int 250000)) tNil))))) (tOp (gMod) (tCall (sp_l_mixed K c_Rail) [] E0 (tCons (tVar 0) (tCons (tC (.int 4)) tNil))) (tC (.int 4)))) (gName 1))
  (tSeq (tAsg (tCall (sp_l_rail K c_Rail) [] E0 (tCons (tVar 0) (tCons (tVar 1) tNil))) (gTup K 4 (gCons (gName 2) (gCons (gName 3) (gCons (gName 4) (gCons (gName 5) gNil))))))
  (tSeq (tAsg (tMake c_Rail (sp_Rail_init K c_Rail) [] E0 (tCons (tVar 2) (tCons (tVar 3) (tCons (tCB (rListOf K) (tCons (tVar 4) tNil)) tNil)))) (gName 6))
  (tSeq (tAsg (tTup (tCons (tVar 2) (tCons (tVar 3) (tCons (tVar 4) tNil)))) (gName 7))
  (tSeq (tFor (iRng2 (tCons (tC (.int 5)) (tCons (tCB (gMax K) (tCons (tC (.int 6)) (tCons (tCB (gMin K) (tCons (tCB (rLen K) (tCons (tVar 0) tNil)) (tCons (tC (.int 63)) tNil))) tNil))) tNil))) (gName 8) (tSeq (tAsg (tCall (sp_l_mixed K c_Rail) [] E0 (tCons (tVar 0) (tCons (tVar 8) tNil))) (gName 9))
  (tSeq (tAsg (tLc (iRng1 (tCons (tCB (rLen K) (tCons (tVar 5) tNil)) tNil)) (gName 11) tYes (tOp (gEq K) (tOp (gMod) (tOp (gFdv) (tVar 9) (tOp (gIx K) (tLst (tCons (tC (.int 1)) (tCons (tC (.int 2)) (tCons (tC (.int 4)) (tCons (tC (.int 8)) (tCons (tC (.int 16)) (tCons (tC (.int 32)) tNil))))))) (tVar 11))) (tC (.int 4))) (tC (.int 1))) [11]) (gName 10))
  (tSeq (tAsg (tCB (rListOf K) (tCons (tVar 10) tNil)) (gName 12))
  (tSeq (tAsg (tCall (sp_l_lows K c_Rail) [] E0 (tCons (tVar 7) (tCons (tVar 5) (tCons (tVar 10) tNil)))) (gName 13))
  (tSeq (tAsg (tCall (sp_l_highs K c_Rail) [] E0 (tCons (tVar 7) (tCons (tVar 5) (tCons (tVar 10) tNil)))) (gName 14))
  (tSeq (tFor (iRng1 (tCons (tCB (rLen K) (tCons (tVar 5) tNil)) tNil)) (gName 11) (tSeq (tAsg (tTup (tCons (tOp (gIx K) (tVar 13) (tVar 11)) (tCons (tOp (gIx K) (tVar 14) (tVar 11)) tNil))) (gName 15))
  (tSeq (tFor (iRng1 (tCons (tC (.int 2)) tNil)) (gName 16) (tSeq (tAsg (tCall (sp_span K c_Rail) [] E0 (tCons (tVar 6) (tCons (tVar 5) (tCons (tVar 12) (tCons (tVar 11) tNil))))) (gName 17))
  (tIfS (tOr (tNot (tB (tCB (rIsi K) (tCons (tVar 17) (tCons (tC (.ty "tuple")) tNil))))) (tOr (tTest (tOp (gNe K) (tVar 17) (tVar 15))) (tB (tCB (rIsi K) (tCons (tOp (gIx K) (tVar 17) (tC (.int 0))) (tCons (tC (.ty "bool")) tNil)))))) (tRet (tC (.bl false))) tNext)))
  (tSeq (tFor (iTup K (tVar 15)) (gName 18) (tIfS (tNot (tB (tCall (sp_l_is_let K c_Rail) [] E0 (tCons (tVar 7) (tCons (tVar 5) (tCons (tVar 10) (tCons (tCall (sp_l_by K c_Rail) [] E0 (tCons (tVar 7) (tCons (tVar 5) (tCons (tVar 10) (tCons (tVar 11) (tCons (tVar 18) tNil)))))) tNil))))))) (tRet (tC (.bl false))) tNext))
  (tFor (iTup K (tTup (tCons (tOp (gSub) (tOp (gIx K) (tVar 15) (tC (.int 0))) (tC (.int 1))) (tCons (tOp (gAdd K) (tOp (gIx K) (tVar 15) (tC (.int 1))) (tC (.int 1))) tNil)))) (gName 18) (tIfS (tB (tCall (sp_l_is_let K c_Rail) [] E0 (tCons (tVar 7) (tCons (tVar 5) (tCons (tVar 10) (tCons (tCall (sp_l_by K c_Rail) [] E0 (tCons (tVar 7) (tCons (tVar 5) (tCons (tVar 10) (tCons (tVar 11) (tCons (tVar 18) tNil)))))) tNil)))))) (tRet (tC (.bl false))) tNext))))))
  (tSeq (tIfS (tTest (tOp (gNe K) (tVar 12) (tVar 10))) (tRet (tC (.bl false))) tNext)
  (tAsg (tIf (tTest (tOp (gEq K) (tOp (gMod) (tVar 9) (tC (.int 3))) (tC (.int 1)))) (tCall (sp_l_by K c_Rail) [] E0 (tCons (tVar 7) (tCons (tVar 5) (tCons (tVar 10) (tCons (tC (.int 0)) (tCons (tOp (gIx K) (tVar 13) (tC (.int 0))) tNil)))))) (tVar 5)) (gName 5))))))))))
  (tRet (tC (.bl true))))))))

local macro_rules | `(tactic| walk_at "cy.side") => `(tactic| first | assumption | omega | decide | (simp only [List.length_map, List.length_cons, List.length_nil, List.length_append]; omega) | rfl)
local macro_rules | `(tactic| walk_at "cy.op") => `(tactic| first
  | exact d_addI | exact d_subI | exact d_ltI | exact d_leI | exact d_gtI | exact d_geI | exact d_eqI | exact d_neI | exact d_eqS | exact d_neS | exact d_leS | exact d_inC | exact d_niC
  | exact d_isN | exact d_niN | exact d_isB | exact d_pow9 | exact d_pow12 | exact d_pow6
  | exact d_fdv (by first | decide | omega) (by first | decide | omega) | exact d_mod (by first | decide | omega) | exact d_pow ⟨by decide, by decide, by decide⟩
  | exact d_mulI (Or.inl (by first | decide | omega)) | exact d_mulI (Or.inr (by first | decide | omega))
  | exact d_addS (by walk_at "cy.side") | exact d_ixL (by walk_at "cy.side") | exact d_ixT (by walk_at "cy.side") | exact d_ixR (by walk_at "cy.side") | exact d_ixS (by walk_at "cy.side") (by walk_at "cy.side")
  | exact d_ixLn (by walk_at "cy.side") (by walk_at "cy.side") | exact d_ixTn (by walk_at "cy.side") (by walk_at "cy.side") | exact d_ixRn (by walk_at "cy.side") (by walk_at "cy.side")
  | exact d_eqD (by walk_at "cy.side") (by walk_at "cy.side") | exact d_neD (by walk_at "cy.side") (by walk_at "cy.side"))
local macro_rules | `(tactic| walk_at "cy.n") => `(tactic| first
  | exact n_max2 | exact n_min2 | exact n_abs | exact n_lenL | exact n_lenT | exact n_lenR | exact n_lenS (by walk_at "cy.side") | exact n_reprB | exact n_reprN | exact n_reprI (by walk_at "cy.side") | exact n_all | exact n_any
  | exact n_strI (by walk_at "cy.side") | exact n_intS (by walk_at "cy.side") (by walk_at "cy.side"))
local macro_rules | `(tactic| walk_at "cy.s") => `(tactic| first
  | exact s_nil
  | (apply s_cons; walk_at "cy.e"; walk_at "cy.s"))
local macro_rules | `(tactic| walk_at "cy.p") => `(tactic| first
  | exact p_none
  | (apply p_some; walk_at "cy.e"))
local macro_rules | `(tactic| walk_at "cy.e") => `(tactic| first
  | assumption
  | exact e_var rfl
  | exact e_int | exact e_none | exact e_bl | exact e_str | exact e_dnew | exact e_disp1
  | (apply e_op; walk_at "cy.e"; walk_at "cy.e"; walk_at "cy.op")
  | (apply e_isi; walk_at "cy.e"; rfl; decide +kernel)
  | (apply e_cb; walk_at "cy.s"; walk_at "cy.n")
  | (apply e_chain; walk_at "cy.e"; walk_at "cy.e"; walk_at "cy.op"; (intro _; walk_at "cy.e"); (intro _; walk_at "cy.op"))
  | (apply e_tup; walk_at "cy.s"; walk_at "cy.side")
  | (apply e_share; apply o_lst; walk_at "cy.s"; walk_at "cy.side")
  | (apply e_slS; walk_at "cy.e"; walk_at "cy.p"; walk_at "cy.p"; walk_at "cy.side")
  | (apply e_share; apply o_sl; walk_at "cy.e"; walk_at "cy.p"; walk_at "cy.p")
  | (apply e_un; walk_at "cy.e"; exact op1_neg)
  | (apply e_notV; walk_at "cy.e")
  | (apply e_andV; walk_at "cy.e"; (intro _; walk_at "cy.e"))
  | (apply e_orV; walk_at "cy.e"; (intro _; walk_at "cy.e"))
  | (apply e_call; walk_at "cy.s"; walk_at "cy.side")
  | (apply e_share; apply o_call; walk_at "cy.s"; walk_at "cy.side"))
local macro_rules | `(tactic| walk_at "cy.t") => `(tactic| first
  | assumption
  | exact t_yes
  | (apply t_test; walk_at "cy.e")
  | (apply t_B; walk_at "cy.e")
  | (apply t_not; walk_at "cy.t")
  | (apply t_and; walk_at "cy.t"; (intro _; walk_at "cy.t"))
  | (apply t_or; walk_at "cy.t"; (intro _; walk_at "cy.t")))
local macro_rules | `(tactic| walk_at "cy.wk") => `(tactic| repeat (first | exact Wk.nil | apply Wk.keep | apply Wk.drop))

section
variable {c_Rail : Addr}
theorem rd_is_among (K : PySem.W.Frag) (Z : CF K c_Rail) {ds : List D} {d : D} (h : R_is_among ds d) : StD K (t_is_among K c_Rail) (args nm_is_among.length ds) (.rt d) := by
  obtain ⟨x, a, b, rfl, hn, rfl⟩ := h
  unfold t_is_among
  have e1 : EvD K (tCB (rIsi K) (tCons (tVar 0) (tCons (tC (.ty "int")) tNil))) (args nm_is_among.length [x, .int a, .int b]) (.bl (isI x)) := e_isI (e_var rfl) hn
  have e2 : EvD K (tCB (rIsi K) (tCons (tVar 0) (tCons (tC (.ty "bool")) tNil))) (args nm_is_among.length [x, .int a, .int b]) (.bl (isB x)) := e_isB (e_var rfl) hn
  refine st_guard (t_or (t_not (t_B e1)) (fun _ => t_B e2)) (fun hx => st_ret ?_) (fun hx => st_ret ?_)
  · cases x <;> first | (cases hx; done) | exact e_bl
  · cases x <;> first | (cases hx; done) | skip
    rename_i i
    show EvD K _ _ (.bl (decide (a ≤ i) && decide (i ≤ b)))
    walk_at "cy.e"
theorem among_yes {i a b : Int} (h : a ≤ i ∧ i ≤ b) : amongI (.int i) a b = true := by
  show (decide (a ≤ i) && decide (i ≤ b)) = true
  rw [decide_eq_true h.1, decide_eq_true h.2]
  rfl
theorem rd_is_crane (K : PySem.W.Frag) (Z : CF K c_Rail) {ds : List D} {d : D} (h : R_is_crane ds d) : StD K (t_is_crane K c_Rail) (args nm_is_crane.length ds) (.rt d) := by
  obtain ⟨⟨s, h'⟩, rfl, ⟨h1, h2, h3, h4⟩, rfl⟩ := h
  unfold t_is_crane crD
  refine st_pass (t_is (t_or (t_not (t_B (e_isT (e_var rfl) rfl))) (fun _ => by walk_at "cy.t")) rfl) ?_
  refine st_seq (st_asg (e_var rfl) (g_tup (gs_cons g_name (gs_cons g_name gs_nil)) rfl)) (st_ret (e_is (e_andV (e_call (s_cons (e_var rfl) (s_cons e_int (s_cons e_int s_nil))) ⟨.int s, 1, 1000000000, rfl, rfl, rfl⟩) (fun _ => e_call (s_cons (e_var rfl) (s_cons e_int (s_cons e_int s_nil))) ⟨.int h', 1, 1000, rfl, rfl, rfl⟩)) ?_))
  rw [among_yes ⟨h1, h2⟩, among_yes ⟨h3, h4⟩]
  rfl
theorem rd_is_rail (K : PySem.W.Frag) (Z : CF K c_Rail) {ds : List D} {d : D} (h : R_is_rail ds d) : StD K (t_is_rail K c_Rail) (args nm_is_rail.length ds) (.rt d) := by
  obtain ⟨e, r, cr, rfl, ok, rfl⟩ := h
  have c1 := ok.c1
  have c2 := ok.c2
  have hlen : (cr.map crD).length = cr.length := List.length_map ..
  unfold t_is_rail
  refine st_pass (t_is (t_or (t_not (t_B (e_call (s_cons (e_var rfl) (s_cons e_int (s_cons e_int s_nil))) ⟨.int e, 1, 1000000000000, rfl, rfl, rfl⟩))) (fun _ => t_not (t_B (e_call (s_cons (e_var rfl) (s_cons e_int (s_cons e_int s_nil))) ⟨.int r, 1, 1000000, rfl, rfl, rfl⟩)))) (by rw [among_yes ⟨ok.e1, ok.e2⟩, among_yes ⟨ok.r1, ok.r2⟩]; rfl)) ?_
  refine st_pass (t_is (t_or (t_not (t_B (e_isL (e_var rfl) rfl))) (fun _ => by walk_at "cy.t")) (by
    show (!true || !(decide (1 ≤ (((cr.map crD).length : Nat) : Int)) && decide ((((cr.map crD).length : Nat) : Int) ≤ 6))) = false
    rw [hlen, decide_eq_true (by omega), decide_eq_true (by omega)]
    rfl)) ?_
  refine st_pass (t_is (t_not (t_B (e_cb (s_cons (e_is (e_share (o_lcM (fun _ => D.bl true) (it_list (e_var rfl)) (by rw [hlen]; omega) (fun d hd => ?_))) (b := .lst ((cr.map fun _ => true).map D.bl)) ?_) s_nil) n_all))) ?_) (st_ret ?_)
  · obtain ⟨p, hp, rfl⟩ := List.mem_map.mp hd
    rw [wipe1]
    exact e_call (s_cons (e_var rfl) s_nil) ⟨p, rfl, ok.cs p hp, rfl⟩
  · rw [List.map_map, List.map_map]
    rfl
  · have : (cr.map fun _ => true).all id = true := by
      rw [List.all_map]
      exact List.all_eq_true.mpr fun _ _ => rfl
    rw [this]
    rfl
  · refine e_is (e_op (e_op (e_op (e_cb (s_cons (e_var rfl) s_nil) n_lenL) e_int d_subI) (e_var rfl) (d_mulI (Or.inr ?_))) (e_var rfl) d_leI) ?_
    · have := ok.r1
      have := ok.r2
      omega
    · rw [hlen, decide_eq_true ok.fit]
theorem rd_Rail_init (K : PySem.W.Frag) (Z : CF K c_Rail) {x : Addr} {ds : List D} {fs : List (Str × D)} (h : R_Rail_init ds fs) : ∃ G, G[0]? = some (.own (.ins x c_Rail fs)) ∧ StD K (t_Rail_init K c_Rail) (argsI nm_Rail_init.length x c_Rail ds) (.nx G) := by
  obtain ⟨e, r, cr, rfl, ok, rfl⟩ := h
  have c2 := ok.c2
  have hlen : (cr.map crD).length = cr.length := List.length_map ..
  refine ⟨[.own (.ins x c_Rail (railFs e r cr)), .dat (.int e), .dat (.int r), .dat (.lst (cr.map crD)), .no, .no], rfl, ?_⟩
  unfold t_Rail_init
  refine st_pass (t_is (t_not (t_B (e_call (s_cons (e_var rfl) (s_cons (e_var rfl) (s_cons (e_var rfl) s_nil))) ⟨e, r, cr, rfl, ok, rfl⟩))) rfl) ?_
  refine st_seq (st_fld (i := 0) rfl (e_var rfl) Z.cl_Rail Z.n_Rail_end (by decide)) (st_seq (st_fld (i := 0) rfl (e_var rfl) Z.cl_Rail Z.n_Rail_room (by show 1 < 1000; decide)) (st_is (st_fld (i := 0) (d := .tup (cr.map crD)) rfl ?_ Z.cl_Rail Z.n_Rail_cranes (by show 2 < 1000; decide)) ?_))
  · refine e_cb (s_cons (e_is (e_share (o_lcM2 (by decide) (fun d => match d with | .tup [a, _] => a | _ => .non) (fun d => match d with | .tup [_, b] => b | _ => .non) (fun d => match d with | .tup [a, b] => .tup [a, b] | _ => .non) (it_list (e_var rfl)) (by rw [hlen]; omega) (fun d hd => ?_) (fun d hd => ?_))) ?_) s_nil) n_tupL
    · obtain ⟨p, _, rfl⟩ := List.mem_map.mp hd
      rfl
    · obtain ⟨p, _, rfl⟩ := List.mem_map.mp hd
      exact e_tup (s_cons (e_var rfl) (s_cons (e_var rfl) s_nil)) (by show 2 ≤ 100000; decide)
    · rw [List.map_map]
      rfl
  · rfl
theorem rd_l_cell_at (K : PySem.W.Frag) (Z : CF K c_Rail) {ds : List D} {d : D} (h : R_l_cell_at ds d) : StD K (t_l_cell_at K c_Rail) (args nm_l_cell_at.length ds) (.rt d) := by
  obtain ⟨ns, k, rfl, h0, rfl⟩ := h
  unfold t_l_cell_at
  by_cases hk : k < (ns.length : Int)
  · exact st_guard (x := true) (t_is (by walk_at "cy.t") (decide_eq_true hk)) (fun _ => st_ret (e_op (e_var rfl) (e_var rfl) (d_ixRn h0 hk))) (fun q => nomatch q)
  · refine st_guard (x := false) (t_is (by walk_at "cy.t") (decide_eq_false hk)) (fun q => nomatch q) (fun _ => st_ret (e_is e_int ?_))
    unfold cellAt
    rw [List.getD_eq_getElem?_getD, List.getElem?_eq_none (by omega)]
    rfl
theorem pow60 {K : PySem.W.Frag} : Op2 K gPow (.int 10) (.int 60) (.int 1000000000000000000000000000000000000000000000000000000000000) := by
  have h := d_pow (K := K) (i := 10) (j := 60) ⟨by decide, by decide, by decide⟩
  exact h
theorem rd_l_mixed (K : PySem.W.Frag) (Z : CF K c_Rail) {ds : List D} {d : D} (h : R_l_mixed ds d) : StD K (t_l_mixed K c_Rail) (args nm_l_mixed.length ds) (.rt d) := by
  obtain ⟨ns, k, rfl, h0, h1, rfl⟩ := h
  unfold t_l_mixed
  refine st_seq (st_asg (d := .int (cellAt ns k)) (e_call (s_cons (e_var rfl) (s_cons (e_var rfl) s_nil)) ⟨ns, k, rfl, h0, rfl⟩) g_name) ?_
  have e1 : EvTt K (tTest (tOp (gNe K) (tVar 0) (tLst tNil))) ((args nm_l_mixed.length [.scr ns, .int k]).set 2 (.dat (.int (cellAt ns k)))) (!ns.isEmpty) := t_is (t_test (e_op (e_var rfl) (e_share (o_lst s_nil (by decide))) (d_neD ok_scr ok_nil))) (by rw [eqD_scr])
  by_cases hc : ns ≠ [] ∧ ns.getD 0 0 % 2 = 1
  · have hne : (!ns.isEmpty) = true := by simp [hc.1]
    have hlen : 0 < ns.length := List.length_pos_iff.mpr hc.1
    refine st_guard (x := true) (t_is (t_and (y := true) e1 (fun _ => t_is (t_test (e_op (e_op (e_op (e_var rfl) e_int (d_ixRn (by decide) (by omega))) e_int (d_mod (by decide))) e_int d_eqI)) (decide_eq_true hc.2))) (by rw [hne]; rfl)) (fun _ => st_ret ?_) (fun q => nomatch q)
    unfold mx
    rw [if_pos hc]
    exact e_op (e_op (e_var rfl) (e_op e_int (e_op e_int e_int pow60) (d_mulI (Or.inl (by decide)))) (d_mod (by decide))) e_int (d_fdv (by decide) (by decide))
  · have hb : 0 ≤ mx1 ns k ∧ mx1 ns k < 2147483647 := ⟨Int.emod_nonneg _ (by decide), Int.emod_lt_of_pos _ (by decide)⟩
    have et : EvTt K (tAnd (tTest (tOp (gNe K) (tVar 0) (tLst tNil))) (tTest (tOp (gEq K) (tOp (gMod) (tOp (gIx K) (tVar 0) (tC (.int 0))) (tC (.int 2))) (tC (.int 1))))) ((args nm_l_mixed.length [.scr ns, .int k]).set 2 (.dat (.int (cellAt ns k)))) false := by
      by_cases hn : ns = []
      · refine t_is (t_and (y := false) e1 (fun q => ?_)) ?_
        · rw [hn] at q
          cases q
        · rw [hn]
          rfl
      · have hlen : 0 < ns.length := List.length_pos_iff.mpr hn
        have h2 : ¬ ns.getD 0 0 % 2 = 1 := fun q => hc ⟨hn, q⟩
        refine t_is (t_and (y := false) e1 (fun _ => t_is (t_test (e_op (e_op (e_op (e_var rfl) e_int (d_ixRn (by decide) (by omega))) e_int (d_mod (by decide))) e_int d_eqI)) (decide_eq_false h2))) (by simp)
    refine st_guard (x := false) et (fun q => nomatch q) (fun _ => ?_)
    refine st_seq (st_asg (d := .int (mx1 ns k)) ?_ g_name) (st_ret ?_)
    · unfold mx1
      exact e_op (e_op (e_op (e_op (e_var rfl) e_int (d_mulI (Or.inr (by decide)))) (e_op e_int (e_var rfl) (d_mulI (Or.inl (by decide)))) d_addI) e_int d_addI) e_int (d_mod (by decide))
    · unfold mx
      rw [if_neg hc]
      generalize mx1 ns k = m at hb
      walk_at "cy.e"

theorem rngD_get {lo : Int} {n i : Nat} {d : D} (h : (rngD lo n)[i]? = some d) : i < n ∧ d = .int (lo + (i : Int)) := by
  unfold rngD at h
  rw [List.getElem?_map] at h
  cases q : (List.range n)[i]? with
  | none =>
    rw [q] at h
    cases h
  | some j =>
    rw [q] at h
    obtain ⟨h2, h3⟩ := List.getElem?_eq_some_iff.mp q
    rw [List.getElem_range] at h3
    subst h3
    cases h
    rw [List.length_range] at h2
    exact ⟨h2, rfl⟩
theorem rngD_len {lo : Int} {n : Nat} : (rngD lo n).length = n := by
  unfold rngD
  rw [List.length_map, List.length_range]
theorem rngD_mem {lo : Int} {n : Nat} {d : D} (h : d ∈ rngD lo n) : ∃ i : Nat, i < n ∧ d = .int (lo + (i : Int)) := by
  unfold rngD at h
  obtain ⟨i, hi, rfl⟩ := List.mem_map.mp h
  exact ⟨i, List.mem_range.mp hi, rfl⟩
theorem map_get {α : Type} {f : α → D} (e : α) {l : List α} {i : Nat} {d : D} (h : (l.map f)[i]? = some d) : i < l.length ∧ d = f (l.getD i e) := by
  rw [List.getElem?_map] at h
  cases q : l[i]? with
  | none =>
    rw [q] at h
    cases h
  | some j =>
    rw [q] at h
    obtain ⟨h2, h3⟩ := List.getElem?_eq_some_iff.mp q
    cases h
    rw [List.getD_eq_getElem?_getD, q]
    exact ⟨h2, rfl⟩
theorem e_room (Z : CF K c_Rail) {e r : Int} {cr : List (Int × Int)} {G : List Sl} {ta : TE} (h : EvD K ta G (.obj c_Rail (railFs e r cr))) : EvD K (tFld K ta "room") G (.int r) := e_fld h Z.cl_Rail Z.n_Rail_room rfl
theorem e_end (Z : CF K c_Rail) {e r : Int} {cr : List (Int × Int)} {G : List Sl} {ta : TE} (h : EvD K ta G (.obj c_Rail (railFs e r cr))) : EvD K (tFld K ta "end") G (.int e) := e_fld h Z.cl_Rail Z.n_Rail_end rfl
theorem e_cranes (Z : CF K c_Rail) {e r : Int} {cr : List (Int × Int)} {G : List Sl} {ta : TE} (h : EvD K ta G (.obj c_Rail (railFs e r cr))) : EvD K (tFld K ta "cranes") G (.tup (cr.map crD)) := e_fld h Z.cl_Rail Z.n_Rail_cranes rfl
theorem getD_ints {ns : List Int} {i : Nat} (h : i < ns.length) : (ns.map D.int).getD i .non = .int (ns.getD i 0) := getD_mapD D.int 0 ns i h
theorem ixI {ns : List Int} {i : Nat} (h : i < ns.length) : Op2 K (gIx K) (.lst (ns.map D.int)) (nat i) (.int (ns.getD i 0)) := d_ixI (i := (i : Int)) (by omega) (by omega)
theorem ixL {α : Type} {f : α → D} (e : α) {l : List α} {i : Nat} (h : i < l.length) : Op2 K (gIx K) (.lst (l.map f)) (nat i) (f (l.getD i e)) := by
  have := d_ixLn (K := K) (l := l.map f) (i := (i : Int)) (by omega) (by rw [List.length_map]; omega)
  rw [show ((i : Int)).toNat = i from rfl, getD_mapD f e l i h] at this
  exact this
theorem ixT {α : Type} {f : α → D} (e : α) {l : List α} {i : Nat} (h : i < l.length) : Op2 K (gIx K) (.tup (l.map f)) (nat i) (f (l.getD i e)) := by
  have := d_ixTn (K := K) (l := l.map f) (i := (i : Int)) (by omega) (by rw [List.length_map]; omega)
  rw [show ((i : Int)).toNat = i from rfl, getD_mapD f e l i h] at this
  exact this
theorem ix0 {p : Int × Int} : Op2 K (gIx K) (crD p) (.int 0) (.int p.1) := d_ixT (by rfl)
theorem ix1 {p : Int × Int} : Op2 K (gIx K) (crD p) (.int 1) (.int p.2) := d_ixT (by rfl)
theorem loD_sq (f : Nat → Int × Int) (n : Nat) : loD (sq f n) = (sq (fun i => (f i).1) n).map D.int := by
  unfold loD
  rw [sq_map, sq_map]
theorem hiD_sq (f : Nat → Int × Int) (n : Nat) : hiD (sq f n) = (sq (fun i => (f i).2) n).map D.int := by
  unfold hiD
  rw [sq_map, sq_map]
theorem downD_get {lo : Int} {n i : Nat} {d : D} (h : (downD lo n)[i]? = some d) : i < n ∧ d = .int (lo + (n : Int) - 1 - (i : Int)) := by
  unfold downD at h
  rw [List.getElem?_map] at h
  cases q : (List.range n)[i]? with
  | none =>
    rw [q] at h
    cases h
  | some j =>
    rw [q] at h
    obtain ⟨h2, h3⟩ := List.getElem?_eq_some_iff.mp q
    rw [List.getElem_range] at h3
    subst h3
    cases h
    rw [List.length_range] at h2
    exact ⟨h2, rfl⟩
theorem downD_len {lo : Int} {n : Nat} : (downD lo n).length = n := by
  unfold downD
  rw [List.length_map, List.length_range]

theorem zip3_get {ps : List Int} {ws : List Bool} {cr : List (Int × Int)} {i : Nat} {d : D} (h1 : ps.length = cr.length) (h2 : ws.length = cr.length) (h : (zipD3 (ps.map D.int) (ws.map D.bl) (cr.map crD))[i]? = some d) : i < ps.length ∧ d = .tup [.int (ps.getD i 0), .bl (ws.getD i false), .tup [.int (pA cr i), .int (pB cr i)]] := by
  have hi := (List.getElem?_eq_some_iff.mp h).1
  rw [zipD3_len, List.length_map, List.length_map, List.length_map] at hi
  have a1 : i < ps.length := by omega
  have a2 : i < ws.length := by omega
  have a3 : i < cr.length := by omega
  rw [zipD3_at (by rw [List.length_map]; exact a1) (by rw [List.length_map]; exact a2) (by rw [List.length_map]; exact a3)] at h
  cases h
  refine ⟨a1, ?_⟩
  rw [List.getElem_map, List.getElem_map, List.getElem_map]
  unfold pA pB crD
  simp only [List.getD_eq_getElem?_getD, List.getElem?_eq_getElem a1, List.getElem?_eq_getElem a2, List.getElem?_eq_getElem a3, Option.getD_some]
theorem rd_lows (K : PySem.W.Frag) (Z : CF K c_Rail) {ds l : List D} (h : R_lows c_Rail ds l) : StD K (t_lows K c_Rail) (args nm_lows.length ds) (.ro l) := by
  obtain ⟨e, r, cr, ps, ws, rfl, g, rfl⟩ := h
  have c2 := g.ok.c2
  have lp := g.lp
  have lw := g.lw
  unfold t_lows
  refine st_seq (st_asgO (o_lst s_nil (by show 0 ≤ 100000; decide))) (st_seq (st_asg (d := .int 0) e_int g_name) ?_)
  let C : Nat → List Sl := fun i => [.dat (.obj c_Rail (railFs e r cr)), .dat (.lst (ps.map D.int)), .dat (wsD ws), .own (.lst ((sq (lowE r (sides e cr ps ws)) i).map D.int)), .dat (.int (pshL r (sides e cr ps ws) i)), .no, .no, .no, .no, .no]
  let T : Nat → List Sl := fun i => ((((C i).set 5 (.dat (.int (ps.getD i 0)))).set 6 (.dat (.bl (ws.getD i false)))).set 7 (.dat (.int (pA cr i)))).set 8 (.dat (.int (pB cr i)))
  refine st_seq (G1 := C ps.length) (st_for (it_zip3 (s_cons (e_var rfl) (s_cons (e_var rfl) (s_cons (e_cranes Z (e_var rfl)) s_nil)))) C rfl T (fun i d hd => ?_)
    (fun i => .nx ((((T i).set 9 (.dat (.int (lowE r (sides e cr ps ws) i)))).set 3 (.own (.lst ((sq (lowE r (sides e cr ps ws)) (i + 1)).map D.int)))).set 4 (.dat (.int (pshL r (sides e cr ps ws) (i + 1)))))) (fun i hi _ => ?_)
    (fun i hi => .inl ⟨_, .inl rfl, Wk.keep (Wk.keep (Wk.keep (Wk.keep (Wk.keep (Wk.drop (Wk.drop (Wk.drop (Wk.drop (Wk.drop Wk.nil)))))))))⟩) (fun _ => by rw [zipD3_len, List.length_map, List.length_map, List.length_map, lw, lp, Nat.min_self, Nat.min_self])) (st_retV (i := 3) rfl)
  · obtain ⟨h1, rfl⟩ := zip3_get lp lw hd
    exact g_tup (gs_cons g_name (gs_cons g_name (gs_cons (g_tup (gs_cons g_name (gs_cons g_name gs_nil)) rfl) gs_nil))) rfl
  · rw [zipD3_len, List.length_map, List.length_map, List.length_map, lw, lp, Nat.min_self, Nat.min_self] at hi
    have hi' : i < ps.length := by omega
    have ht : EvTt K (tB (tVar 6)) (T i) (ws.getD i false) := t_B (e_var rfl)
    have hif : EvD K (tIf (tB (tVar 6)) (tVar 5) (tOp (gSub) (tVar 5) (tVar 7))) (T i) (.int (if ws.getD i false then ps.getD i 0 else ps.getD i 0 - pA cr i)) := e_if ht (fun q => e_is (e_var rfl) (by rw [if_pos q])) (fun q => e_is (e_op (e_var rfl) (e_var rfl) d_subI) (by rw [if_neg (by rw [q]; exact Bool.false_ne_true)]))
    exact st_seq (st_asg (d := .int (lowE r (sides e cr ps ws) i)) (e_is (e_cb (s_cons (e_var rfl) (s_cons hif s_nil)) n_max2) (by rw [g.low_at hi'])) g_name) (st_seq (st_is (st_app (i := 3) (d := .int (lowE r (sides e cr ps ws) i)) rfl (e_var rfl) (by rw [List.length_map, sq_len]; omega)) (by rw [show ((sq (lowE r (sides e cr ps ws)) i).map D.int) ++ [D.int (lowE r (sides e cr ps ws) i)] = ((sq (lowE r (sides e cr ps ws)) (i + 1)).map D.int) from by rw [sq_succ, List.map_append]; rfl])) (st_asg (e_op (e_var rfl) (e_room Z (e_var rfl)) d_addI) g_name))
theorem rd_highs (K : PySem.W.Frag) (Z : CF K c_Rail) {ds l : List D} (h : R_highs c_Rail ds l) : StD K (t_highs K c_Rail) (args nm_highs.length ds) (.ro l) := by
  obtain ⟨e, r, cr, ps, ws, rfl, g, rfl⟩ := h
  have hS := g.spn.len
  have c2 := g.ok.c2
  have lp := g.lp
  have lw := g.lw
  unfold t_highs
  refine st_seq (st_asgO (o_lst s_nil (by show 0 ≤ 100000; decide))) (st_seq (st_asg (e_end Z (e_var rfl)) g_name) ?_)
  let C : Nat → List Sl := fun i => [.dat (.obj c_Rail (railFs e r cr)), .dat (.lst (ps.map D.int)), .dat (wsD ws), .own (.lst ((sq (highD r (sides e cr ps ws) ps.length) i).map D.int)), .dat (.int (pshH e r (sides e cr ps ws) ps.length i)), .no, .no, .no]
  let T : Nat → List Sl := fun i => (C i).set 5 (.dat (nat (ps.length - 1 - i)))
  refine st_seq (G1 := C ps.length) (st_for (it_rngDn (a := (ps.length : Int) - 1) (n := ps.length) (s_cons (e_op (e_is (e_cb (s_cons (e_var rfl) s_nil) n_lenL) (by rw [List.length_map])) e_int d_subI) (s_cons (e_un e_int op1_neg) (s_cons (e_un e_int op1_neg) s_nil))) (by omega) (by omega)) C rfl T (fun i d hd => ?_)
    (fun i => .nx (((((T i).set 6 (.dat (.int (stepAt cr ws (ps.length - 1 - i))))).set 7 (.dat (.int (highD r (sides e cr ps ws) ps.length i)))).set 3 (.own (.lst ((sq (highD r (sides e cr ps ws) ps.length) (i + 1)).map D.int)))).set 4 (.dat (.int (pshH e r (sides e cr ps ws) ps.length (i + 1)))))) (fun i hi _ => ?_)
    (fun i hi => .inl ⟨_, .inl rfl, Wk.keep (Wk.keep (Wk.keep (Wk.keep (Wk.keep (Wk.drop (Wk.drop (Wk.drop Wk.nil)))))))⟩) (fun _ => by rw [downD_len])) (st_seq (st_turn (i := 3) rfl) (st_is (st_retV (i := 3) rfl) ?_))
  · obtain ⟨hi, rfl⟩ := downD_get hd
    have e : (0 : Int) + (ps.length : Int) - 1 - (i : Int) = ((ps.length - 1 - i : Nat) : Int) := by omega
    rw [e]
    exact g_name
  · rw [downD_len] at hi
    have hi' : ps.length - 1 - i < ps.length := by omega
    refine st_seq (st_asg (d := .int (stepAt cr ws (ps.length - 1 - i))) ?_ g_name) (st_seq (st_asg (d := .int (highD r (sides e cr ps ws) ps.length i)) (e_is (e_cb (s_cons (e_var rfl) (s_cons (e_op (e_op (e_var rfl) (e_var rfl) (ixI hi')) (e_var rfl) d_addI) s_nil)) n_min2) (by rw [g.high_at hi])) g_name) (st_seq (st_is (st_app (i := 3) (d := .int (highD r (sides e cr ps ws) ps.length i)) rfl (e_var rfl) (by rw [List.length_map, sq_len]; omega)) (by rw [show ((sq (highD r (sides e cr ps ws) ps.length) i).map D.int) ++ [D.int (highD r (sides e cr ps ws) ps.length i)] = ((sq (highD r (sides e cr ps ws) ps.length) (i + 1)).map D.int) from by rw [sq_succ, List.map_append]; rfl])) (st_asg (e_op (e_var rfl) (e_room Z (e_var rfl)) d_subI) g_name)))
    have ht : EvTt K (tB (tOp (gIx K) (tVar 2) (tVar 5))) (T i) (ws.getD (ps.length - 1 - i) false) := t_B (e_op (e_var rfl) (e_var rfl) (ixL (f := D.bl) false (by omega)))
    unfold stepAt
    exact e_if ht (fun q => e_is e_int (by rw [q]; rfl)) (fun q => e_is (e_op (e_op (e_cranes Z (e_var rfl)) (e_var rfl) (ixT (f := crD) (0, 0) (by omega))) e_int ix0) (by rw [q]; rfl))
  · rw [← List.map_reverse, sq_rev]
    unfold highE
    rw [hS]
theorem rd_span (K : PySem.W.Frag) (Z : CF K c_Rail) {ds : List D} {d : D} (h : R_span c_Rail ds d) : StD K (t_span K c_Rail) (args nm_span.length ds) (.rt d) := by
  obtain ⟨e, r, cr, ps, ws, c, rfl, g, hc, rfl⟩ := h
  unfold t_span
  exact st_ret (e_tup (s_cons (e_is (e_op (e_share (o_call (s_cons (e_var rfl) (s_cons (e_var rfl) (s_cons (e_var rfl) s_nil))) ⟨e, r, cr, ps, ws, rfl, g, rfl⟩)) (e_var rfl) (ixI (by rw [sq_len]; exact hc))) (by rw [sq_getD _ _ _ hc])) (s_cons (e_is (e_op (e_share (o_call (s_cons (e_var rfl) (s_cons (e_var rfl) (s_cons (e_var rfl) s_nil))) ⟨e, r, cr, ps, ws, rfl, g, rfl⟩)) (e_var rfl) (ixI (by rw [sq_len]; exact hc))) (by rw [sq_getD _ _ _ hc])) s_nil)) (by show 2 ≤ 100000; decide))

theorem enum_get {l : List D} {i : Nat} {d : D} (h : (enumD l)[i]? = some d) : i < l.length ∧ d = .tup [.int (i : Int), l.getD i .non] := by
  unfold enumD at h
  rw [List.getElem?_map] at h
  cases q : (List.range l.length)[i]? with
  | none =>
    rw [q] at h
    cases h
  | some j =>
    rw [q] at h
    obtain ⟨h2, h3⟩ := List.getElem?_eq_some_iff.mp q
    rw [List.getElem_range] at h3
    subst h3
    cases h
    rw [List.length_range] at h2
    exact ⟨h2, rfl⟩
theorem enum_len {l : List D} : (enumD l).length = l.length := by
  unfold enumD
  rw [List.length_map, List.length_range]
theorem eqD_nil (l : List D) : eqD (.lst l) (.lst []) = l.isEmpty := by
  unfold eqD
  cases l with
  | nil => simp only [toP, toPs, PyData.eqv, PyData.eqvAll, List.isEmpty_nil]
  | cons x r => simp only [toP, toPs, PyData.eqv, PyData.eqvAll, List.isEmpty_cons]
theorem sq_ints {f : Nat → Int} {n : Nat} : ((sq f n).map D.int).length = n := by rw [List.length_map, sq_len]

theorem d_pow11 {K : PySem.W.Frag} : Op2 K gPow (.int 10) (.int 11) (.int 100000000000) := by
  have h := d_pow (K := K) (i := 10) (j := 11) ⟨by decide, by decide, by decide⟩
  exact h
theorem e_mixed {K : PySem.W.Frag} {G : List Sl} {ns : List Int} {i : Nat} {k : Int} {E : XK} (h : G[i]? = some (.dat (.scr ns))) (hk : 0 ≤ k ∧ k ≤ 1000) : EvD K (tCall (sp_l_mixed K c_Rail) [] E (tCons (tVar i) (tCons (tC (.int k)) tNil))) G (.int (mx ns k)) := e_call (s_cons (e_var h) (s_cons e_int s_nil)) ⟨ns, k, rfl, hk.1, hk.2, rfl⟩
theorem atI_last {α : Type} (e : α) {l : List α} (h : 0 < l.length) : atI l (-1) = some (l.getD (l.length - 1) e) := by
  unfold atI ixN
  rw [if_neg (by decide), if_pos (by omega)]
  show l[((-1 : Int) + (l.length : Int)).toNat]? = _
  have : ((-1 : Int) + (l.length : Int)).toNat = l.length - 1 := by omega
  rw [this, List.getD_eq_getElem?_getD, List.getElem?_eq_getElem (by omega)]
  rfl
theorem rg_get {lo : Int} {n i : Nat} {d : D} (h : (rngD lo n)[i]? = some d) : i < n ∧ d = .int (lo + (i : Int)) := by
  unfold rngD at h
  rw [List.getElem?_map] at h
  cases q : (List.range n)[i]? with
  | none =>
    rw [q] at h
    cases h
  | some j =>
    rw [q] at h
    obtain ⟨h2, h3⟩ := List.getElem?_eq_some_iff.mp q
    rw [List.getElem_range] at h3
    subst h3
    cases h
    rw [List.length_range] at h2
    exact ⟨h2, rfl⟩
theorem rg_len {lo : Int} {n : Nat} : (rngD lo n).length = n := by
  unfold rngD
  rw [List.length_map, List.length_range]
theorem rd_l_rail (K : PySem.W.Frag) (Z : CF K c_Rail) {ds : List D} {d : D} (h : R_l_rail ds d) : StD K (t_l_rail K c_Rail) (args nm_l_rail.length ds) (.rt d) := by
  obtain ⟨ns, s, rfl, hs, rfl⟩ := h
  have hn := rN_in ns
  have hsb : 0 < s ∧ s ≤ 250000 := by rcases hs with rfl | rfl | rfl <;> decide
  have m0 := mx_nn ns 0
  have m1 := mx_nn ns 1
  have m2 := mx_nn ns 2
  have m3 := mx_nn ns 3
  unfold t_l_rail
  refine st_seq (st_asg (d := .int ((rN ns : Nat) : Int)) (e_is (e_op e_int (e_op (e_mixed rfl (by decide)) e_int (d_mod (by decide))) d_addI) (by rw [hn.2.2])) g_name) ?_
  refine st_seq (st_asg (d := .int (rR ns s)) (e_op (e_var rfl) (e_op e_int (e_op (e_op (e_mixed rfl (by decide)) e_int (d_fdv (by decide) (by decide))) e_int (d_mod (by decide))) d_addI) (d_mulI (Or.inl (by omega)))) g_name) ?_
  refine st_seq (st_asgO (o_lst s_nil (by show 0 ≤ 100000; decide))) ?_
  have hfar := farL_in (mx ns 1 / 3 % 3).toNat
  refine st_seq (st_asg (d := .int (rFar ns s)) (e_op (e_op (e_is (b := .lst (farL.map D.int)) (e_share (o_lst (ds := [.int 0, .int 100000000007, .int 999000000000]) (s_cons e_int (s_cons (e_op (e_op e_int e_int d_pow11) e_int d_addI) (s_cons (e_op (e_op e_int e_int d_pow12) (e_op e_int e_int d_pow9) d_subI) s_nil))) (by show 3 ≤ 100000; decide))) rfl) (e_op (e_op (e_mixed rfl (by decide)) e_int (d_fdv (by decide) (by decide))) e_int (d_mod (by decide))) (d_ixI (Int.emod_nonneg _ (by decide)) (Int.emod_lt_of_pos _ (by decide)))) (e_cb (s_cons (e_op (e_var rfl) e_int d_gtI) s_nil) n_intB) (d_mulI (Or.inl (by omega)))) g_name) ?_
  refine st_seq (st_asg (d := .int (atf ns s 0)) (e_op (e_var rfl) (e_op (e_var rfl) (e_op (e_mixed rfl (by decide)) e_int (d_mod (by decide))) (d_mulI (Or.inl (by omega)))) d_addI) g_name) ?_
  let C : Nat → List Sl := fun i => [.dat (.scr ns), .dat (.int s), .dat (.int ((rN ns : Nat) : Int)), .dat (.int (rR ns s)), .own (.lst (((List.range i).map (atf ns s)).map D.int)), .dat (.int (rFar ns s)), .dat (.int (atf ns s i)), .no, .no, .no, .no]
  refine st_seq (G1 := C (rN ns)) (st_for (it_rng1 (n := ((rN ns : Nat) : Int)) (s_cons (e_var rfl) s_nil) (by omega)) C rfl (fun i => (C i).set 7 (.dat (.int (i : Int)))) (fun i d hd => ?_)
    (fun i => .nx ((C (i + 1)).set 7 (.dat (.int (i : Int))))) (fun i hi _ => ?_) (fun i hi => .inl ⟨_, .inl rfl, Wk.keep (Wk.keep (Wk.keep (Wk.keep (Wk.keep (Wk.keep (Wk.keep (Wk.drop (Wk.keep (Wk.keep (Wk.keep Wk.nil))))))))))⟩) (fun _ => by rw [rg_len]; rfl)) ?_
  · obtain ⟨_, rfl⟩ := rg_get hd
    rw [Int.zero_add]
    exact g_name
  · rw [rg_len] at hi
    refine st_seq (st_app (i := 4) rfl (e_var rfl) (by rw [List.length_map, List.length_map, List.length_range]; omega)) (st_is (st_asg (d := .int (atf ns s (i + 1))) (e_op (e_op (e_op (e_var rfl) (e_var rfl) d_addI) (e_op (e_var rfl) (e_op (e_op (e_mixed rfl (by decide)) (e_op e_int (e_op e_int (e_var rfl) (d_mulI (Or.inl (by decide)))) d_addI) (d_fdv (by omega) (by omega))) e_int (d_mod (by decide))) (d_mulI (Or.inl (by omega)))) d_addI) (e_op (e_op (e_mixed rfl (by decide)) (e_op e_int (e_var rfl) d_addI) (d_fdv (by omega) (by omega))) (e_var rfl) (d_mod (by omega))) d_addI) g_name) ?_)
    show Out.nx [.dat (.scr ns), .dat (.int s), .dat (.int ((rN ns : Nat) : Int)), .dat (.int (rR ns s)), .own (.lst (((List.range i).map (atf ns s)).map D.int ++ [.int (atf ns s i)])), _, _, _, _, _, _] = Out.nx [.dat (.scr ns), .dat (.int s), .dat (.int ((rN ns : Nat) : Int)), .dat (.int (rR ns s)), .own (.lst (((List.range (i + 1)).map (atf ns s)).map D.int)), _, _, _, _, _, _]
    rw [List.range_succ, List.map_append, List.map_append]
    rfl
  have hpl : 0 < ((rP ns s).map D.int).length := by
    rw [List.length_map, rP_len]
    omega
  have hlast : atI ((rP ns s).map D.int) (-1) = some (.int (atf ns s (rN ns - 1))) := by
    rw [atI_last .non hpl, List.length_map, rP_len, getD_mapD D.int 0 _ _ (by rw [rP_len]; omega), rP_get ns s (by omega)]
  refine st_seq (st_asg (d := .int (rE ns s)) (e_op (e_look (i := 4) rfl (e_op (e_var rfl) (e_un e_int op1_neg) (d_ixL hlast)) (by rfl)) (e_op (e_var rfl) (e_op e_int (e_op (e_op (e_mixed rfl (by decide)) e_int (d_fdv (by decide) (by decide))) e_int (d_mod (by decide))) d_addI) (d_mulI (Or.inl (by omega)))) d_addI) g_name) ?_
  refine st_seq (st_asgO (o_lst s_nil (by show 0 ≤ 100000; decide))) ?_
  let C2 : Nat → List Sl := fun i => [.dat (.scr ns), .dat (.int s), .dat (.int ((rN ns : Nat) : Int)), .dat (.int (rR ns s)), .own (.lst ((rP ns s).map D.int)), .dat (.int (rFar ns s)), .dat (.int (atf ns s (rN ns))), .no, .dat (.int (rE ns s)), .own (.lst (((List.range i).map (crf ns s)).map crD)), .no]
  refine st_seq (G1 := C2 (rN ns)) (st_for (it_rng1 (n := ((rN ns : Nat) : Int)) (s_cons (e_var rfl) s_nil) (by omega)) C2 rfl (fun i => (C2 i).set 7 (.dat (.int (i : Int)))) (fun i d hd => ?_)
    (fun i => .nx (((C2 (i + 1)).set 7 (.dat (.int (i : Int)))).set 10 (.dat (.int (crf ns s i).1)))) (fun i hi _ => ?_) (fun i hi => .inl ⟨_, .inl rfl, Wk.keep (Wk.keep (Wk.keep (Wk.keep (Wk.keep (Wk.keep (Wk.keep (Wk.drop (Wk.keep (Wk.keep (Wk.drop Wk.nil))))))))))⟩) (fun _ => by rw [rg_len]; rfl)) ?_
  · obtain ⟨_, rfl⟩ := rg_get hd
    rw [Int.zero_add]
    exact g_name
  · rw [rg_len] at hi
    refine st_seq (st_asg (d := .int (crf ns s i).1) (e_op (e_var rfl) (e_op e_int (e_op (e_op (e_mixed rfl (by decide)) (e_op e_int (e_op e_int (e_var rfl) (d_mulI (Or.inl (by decide)))) d_addI) (d_fdv (by omega) (by omega))) e_int (d_mod (by decide))) d_addI) (d_mulI (Or.inl (by omega)))) g_name) (st_is (st_app (i := 9) (d := crD (crf ns s i)) rfl (e_tup (s_cons (e_var rfl) (s_cons (e_op e_int (e_op (e_op (e_mixed rfl (by decide)) (e_op e_int (e_op e_int (e_var rfl) (d_mulI (Or.inl (by decide)))) d_addI) (d_fdv (by omega) (by omega))) e_int (d_mod (by decide))) d_addI) s_nil)) (by show 2 ≤ 100000; decide)) (by rw [List.length_map, List.length_map, List.length_range]; omega)) ?_)
    have ec : ((List.range (i + 1)).map (crf ns s)).map crD = ((List.range i).map (crf ns s)).map crD ++ [crD (crf ns s i)] := by
      rw [List.range_succ, List.map_append, List.map_append]
      rfl
    show Out.nx (((C2 i).set 7 (.dat (.int (i : Int)))).set 10 (.dat (.int (crf ns s i).1)) |>.set 9 (.own (.lst (((List.range i).map (crf ns s)).map crD ++ [crD (crf ns s i)])))) = Out.nx (((C2 i).set 7 (.dat (.int (i : Int)))).set 10 (.dat (.int (crf ns s i).1)) |>.set 9 (.own (.lst (((List.range (i + 1)).map (crf ns s)).map crD))))
    rw [ec]
  exact st_freeze (i := 9) rfl (st_freeze (i := 4) rfl (st_ret (e_tup (s_cons (e_var rfl) (s_cons (e_var rfl) (s_cons (e_var rfl) (s_cons (e_var rfl) s_nil)))) (by show 4 ≤ 100000; decide))))

/-- found == [] -/
theorem t_isnil {K : PySem.W.Frag} {G : List Sl} {i : Nat} {ns : List Int} (h : G[i]? = some (.own (.lst (ns.map D.int)))) : EvTt K (tTest (tOp (gEq K) (tVar i) (tLst tNil))) G ns.isEmpty := by
  refine t_peek h (t_is (t_test (e_op (e_var ?_) (e_share (o_lst s_nil (by show 0 ≤ 100000; decide))) (d_eqD (ok_eq (n := 1) (ok_ints ns) (by decide)) ok_nil))) ?_)
  · rw [List.getElem?_set_self (List.getElem?_eq_some_iff.mp h).1]
    rfl
  · rw [eqD_nil]
    cases ns <;> rfl
/-- found[-1] -/
theorem e_last {K : PySem.W.Frag} {G : List Sl} {i : Nat} {f : Nat → Int} {n : Nat} (h : G[i]? = some (.own (.lst ((sq f (n + 1)).map D.int)))) : EvD K (tOp (gIx K) (tVar i) (tUn (rU fun i => .int (-i)) (tC (.int 1)))) G (.int (f n)) := by
  have hg : (G.set i (.dat (.lst ((sq f (n + 1)).map D.int))))[i]? = some (.dat (.lst ((sq f (n + 1)).map D.int))) := List.getElem?_set_self (List.getElem?_eq_some_iff.mp h).1
  refine e_look h (e_op (e_var hg) (e_un e_int op1_neg) (d_ixL ?_)) (by rfl)
  rw [atI_last .non (by rw [sq_ints]; omega), sq_ints]
  show some (((sq f (n + 1)).map D.int).getD n .non) = _
  rw [getD_mapD D.int 0 _ _ (by rw [sq_len]; omega), sq_getD _ _ _ (by omega)]
theorem rd_l_lows (K : PySem.W.Frag) (Z : CF K c_Rail) {ds l : List D} (h : R_l_lows ds l) : StD K (t_l_lows K c_Rail) (args nm_l_lows.length ds) (.ro l) := by
  obtain ⟨e, r, cr, ps, ws, rfl, g, rfl⟩ := h
  have hS := g.spn.len
  have c2 := g.ok.c2
  have lp := g.lp
  have lw := g.lw
  have hlp : (ps.map D.int).length = ps.length := List.length_map ..
  unfold t_l_lows
  refine st_seq (st_asg (e_var rfl) (g_tup (gs_cons g_name (gs_cons g_name (gs_cons g_name gs_nil))) rfl)) (st_seq (st_asgO (o_lst s_nil (by show 0 ≤ 100000; decide))) ?_)
  let C : Nat → List Sl := fun i => [.dat (toldD e r cr), .dat (.lst (ps.map D.int)), .dat (wsD ws), .dat (.int e), .dat (.int r), .dat (.lst (cr.map crD)), .own (.lst ((sq (lowE r (sides e cr ps ws)) i).map D.int)), .no, .no, .no]
  let T : Nat → List Sl := fun i => ((C i).set 7 (.dat (nat i))).set 8 (.dat (.int (ps.getD i 0)))
  refine st_seq (G1 := C ps.length) (st_for (it_enum (s_cons (e_var rfl) s_nil)) C rfl T (fun i d hd => ?_)
    (fun i => .nx (((T i).set 9 (.dat (.int (pA (sides e cr ps ws) i)))).set 6 (.own (.lst ((sq (lowE r (sides e cr ps ws)) (i + 1)).map D.int))))) (fun i hi _ => ?_)
    (fun i hi => .inl ⟨_, .inl rfl, Wk.keep (Wk.keep (Wk.keep (Wk.keep (Wk.keep (Wk.keep (Wk.keep (Wk.drop (Wk.drop (Wk.drop Wk.nil)))))))))⟩) (fun _ => by rw [enum_len, hlp])) (st_retV (i := 6) rfl)
  · obtain ⟨h1, rfl⟩ := enum_get hd
    rw [hlp] at h1
    rw [getD_ints h1]
    exact g_tup (gs_cons g_name (gs_cons g_name gs_nil)) rfl
  · rw [enum_len, hlp] at hi
    refine st_seq (st_asg (d := .int (pA (sides e cr ps ws) i)) ?_ g_name) (st_is (st_app (i := 6) (d := .int (lowE r (sides e cr ps ws) i)) rfl ?_ (by rw [sq_ints]; omega)) ?_)
    · have ht : EvTt K (tB (tOp (gIx K) (tVar 2) (tVar 7))) (T i) (ws.getD i false) := t_B (e_op (e_var rfl) (e_var rfl) (ixL (f := D.bl) false (by omega)))
      cases hx : ws.getD i false with
      | true =>
        rw [hx] at ht
        exact e_if ht (fun _ => e_is (e_var rfl) (by rw [(g.step0 hi hx).1])) (fun q => nomatch q)
      | false =>
        rw [hx] at ht
        exact e_if ht (fun q => nomatch q) (fun _ => e_is (e_cb (s_cons e_int (s_cons (e_op (e_var rfl) (e_op (e_op (e_var rfl) (e_var rfl) (ixL (f := crD) (0, 0) (by omega))) e_int ix0) d_subI) s_nil)) n_max2) (by rw [(g.step1 hi hx).1]; rfl))
    · have ht := t_isnil (K := K) (G := (T i).set 9 (.dat (.int (pA (sides e cr ps ws) i)))) (i := 6) (ns := sq (lowE r (sides e cr ps ws)) i) rfl
      cases i with
      | zero => exact e_if (x := true) ht (fun _ => e_var rfl) (fun q => nomatch q)
      | succ i => exact e_if (x := false) (t_is ht (by rw [sq_succ, List.isEmpty_eq_false_iff]; exact List.append_ne_nil_of_right_ne_nil _ (List.cons_ne_nil _ _))) (fun q => nomatch q) (fun _ => e_cb (s_cons (e_var rfl) (s_cons (e_op (e_last (i := 6) (f := lowE r (sides e cr ps ws)) (n := i) rfl) (e_var rfl) d_addI) s_nil)) n_max2)
    · rw [sq_succ, List.map_append]
      rfl
theorem rd_l_highs (K : PySem.W.Frag) (Z : CF K c_Rail) {ds l : List D} (h : R_l_highs ds l) : StD K (t_l_highs K c_Rail) (args nm_l_highs.length ds) (.ro l) := by
  obtain ⟨e, r, cr, ps, ws, rfl, g, rfl⟩ := h
  have hS := g.spn.len
  have c2 := g.ok.c2
  have lp := g.lp
  have lw := g.lw
  have hlp : (ps.map D.int).length = ps.length := List.length_map ..
  unfold t_l_highs
  refine st_seq (st_asg (e_var rfl) (g_tup (gs_cons g_name (gs_cons g_name (gs_cons g_name gs_nil))) rfl)) (st_seq (st_asgO (o_lst s_nil (by show 0 ≤ 100000; decide))) ?_)
  let C : Nat → List Sl := fun i => [.dat (toldD e r cr), .dat (.lst (ps.map D.int)), .dat (wsD ws), .dat (.int e), .dat (.int r), .dat (.lst (cr.map crD)), .own (.lst ((sq (highD r (sides e cr ps ws) ps.length) i).map D.int)), .no, .no]
  let T : Nat → List Sl := fun i => (C i).set 7 (.dat (nat (ps.length - 1 - i)))
  refine st_seq (G1 := C ps.length) (st_for (it_revR (a := 0) (b := (ps.length : Int)) (rg_1 (e_is (e_cb (s_cons (e_var rfl) s_nil) n_lenL) (by rw [hlp]))) (by omega)) C rfl T (fun i d hd => ?_)
    (fun i => .nx (((T i).set 8 (.dat (.int (pB (sides e cr ps ws) (ps.length - 1 - i))))).set 6 (.own (.lst ((sq (highD r (sides e cr ps ws) ps.length) (i + 1)).map D.int))))) (fun i hi _ => ?_)
    (fun i hi => .inl ⟨_, .inl rfl, Wk.keep (Wk.keep (Wk.keep (Wk.keep (Wk.keep (Wk.keep (Wk.keep (Wk.drop (Wk.drop Wk.nil))))))))⟩) (fun _ => by rw [downD_len]; rfl)) (st_freeze (i := 6) rfl (st_is (st_retO (o_revL (e_var rfl))) ?_))
  · obtain ⟨hi, rfl⟩ := downD_get hd
    have e : (0 : Int) + (((ps.length : Int) - 0).toNat : Int) - 1 - (i : Int) = ((ps.length - 1 - i : Nat) : Int) := by omega
    rw [e]
    exact g_name
  · rw [downD_len] at hi
    have hi' : ps.length - 1 - i < ps.length := by omega
    refine st_seq (st_asg (d := .int (pB (sides e cr ps ws) (ps.length - 1 - i))) ?_ g_name) (st_is (st_app (i := 6) (d := .int (highD r (sides e cr ps ws) ps.length i)) rfl ?_ (by rw [sq_ints]; omega)) ?_)
    · have ht : EvTt K (tB (tOp (gIx K) (tVar 2) (tVar 7))) (T i) (ws.getD (ps.length - 1 - i) false) := t_B (e_op (e_var rfl) (e_var rfl) (ixL (f := D.bl) false (by omega)))
      cases hx : ws.getD (ps.length - 1 - i) false with
      | true =>
        rw [hx] at ht
        exact e_if ht (fun _ => e_is (e_op (e_var rfl) (e_var rfl) (ixI hi')) (by rw [(g.step0 hi' hx).2])) (fun q => nomatch q)
      | false =>
        rw [hx] at ht
        exact e_if ht (fun q => nomatch q) (fun _ => e_is (e_cb (s_cons (e_var rfl) (s_cons (e_op (e_op (e_var rfl) (e_var rfl) (ixI hi')) (e_op (e_op (e_var rfl) (e_var rfl) (ixL (f := crD) (0, 0) (by omega))) e_int ix0) d_addI) s_nil)) n_min2) (by rw [(g.step1 hi' hx).2]; rfl))
    · have ht := t_isnil (K := K) (G := (T i).set 8 (.dat (.int (pB (sides e cr ps ws) (ps.length - 1 - i))))) (i := 6) (ns := sq (highD r (sides e cr ps ws) ps.length) i) rfl
      cases i with
      | zero => exact e_if (x := true) ht (fun _ => e_var rfl) (fun q => nomatch q)
      | succ i => exact e_if (x := false) (t_is ht (by rw [sq_succ, List.isEmpty_eq_false_iff]; exact List.append_ne_nil_of_right_ne_nil _ (List.cons_ne_nil _ _))) (fun q => nomatch q) (fun _ => e_cb (s_cons (e_var rfl) (s_cons (e_op (e_last (i := 6) (f := highD r (sides e cr ps ws) ps.length) (n := i) rfl) (e_var rfl) d_subI) s_nil)) n_min2)
    · rw [sq_succ, List.map_append]
      rfl
  · rw [← List.map_reverse, sq_rev]
    unfold highE
    rw [hS]
theorem rd_l_is_let (K : PySem.W.Frag) (Z : CF K c_Rail) {ds : List D} {d : D} (h : R_l_is_let ds d) : StD K (t_l_is_let K c_Rail) (args nm_l_is_let.length ds) (.rt d) := by
  obtain ⟨e, r, cr, ps, ws, row, rfl, g, hrow, rfl⟩ := h
  have c2 := g.ok.c2
  have lp := g.lp
  have lw := g.lw
  have hlr : (row.map D.int).length = row.length := List.length_map ..
  unfold t_l_is_let
  refine st_seq (st_asg (e_var rfl) (g_tup (gs_cons g_name (gs_cons g_name (gs_cons g_name gs_nil))) rfl)) ?_
  let B : List Sl := [.dat (toldD e r cr), .dat (.lst (ps.map D.int)), .dat (wsD ws), .dat (.lst (row.map D.int)), .dat (.int e), .dat (.int r), .dat (.lst (cr.map crD)), .no, .no, .no]
  let T : Nat → List Sl := fun i => (B.set 7 (.dat (nat i))).set 8 (.dat (.int (row.getD i 0)))
  show StD K _ B _
  let S : Nat → Out := fun i => if InK e cr ps row ws i then .nx ((T i).set 9 (.dat (.int (stepAt cr ws i)))) else .rt (.bl false)
  have hfor : ∀ o, (∀ i, i < row.length → Goes (S i) B ∨ Ends' (S i) o) → ((∀ i, i < row.length → Goes (S i) B) → o = .nx B) → StD K (tFor (iEnum K (tCons (tVar 3) tNil)) (gTup K 2 (gCons (gName 7) (gCons (gName 8) gNil))) (tSeq (tAsg (tIf (tB (tOp (gIx K) (tVar 2) (tVar 7))) (tC (.int 0)) (tOp (gIx K) (tOp (gIx K) (tVar 6) (tVar 7)) (tC (.int 0)))) (gName 9))
  (tIfS (tOr (tNot (tTest (tChain (gLe) (gLe) (tC (.int 0)) (tVar 8) (tVar 4)))) (tNot (tTest (tChain (gLe) (gLe) (tOp (gSub) (tOp (gIx K) (tVar 1) (tVar 7)) (tVar 9)) (tVar 8) (tOp (gAdd K) (tOp (gIx K) (tVar 1) (tVar 7)) (tVar 9)))))) (tRet (tC (.bl false))) tNext))) B o := by
    intro o h1 h2
    refine st_for (it_enum (s_cons (e_var rfl) s_nil)) (fun _ => B) rfl T (fun i d hd => ?_) S (fun i hi _ => ?_) (fun i hi => ?_) (fun h => ?_)
    · obtain ⟨h1, rfl⟩ := enum_get hd
      rw [hlr] at h1
      rw [getD_ints h1]
      exact g_tup (gs_cons g_name (gs_cons g_name gs_nil)) rfl
    · rw [enum_len, hlr] at hi
      refine st_seq (st_asg (d := .int (stepAt cr ws i)) ?_ g_name) ?_
      · have ht : EvTt K (tB (tOp (gIx K) (tVar 2) (tVar 7))) (T i) (ws.getD i false) := t_B (e_op (e_var rfl) (e_var rfl) (ixL (f := D.bl) false (by omega)))
        unfold stepAt
        cases hx : ws.getD i false with
        | true =>
          rw [hx] at ht
          exact e_if ht (fun _ => e_int) (fun q => nomatch q)
        | false =>
          rw [hx] at ht
          exact e_if ht (fun q => nomatch q) (fun _ => e_op (e_op (e_var rfl) (e_var rfl) (ixL (f := crD) (0, 0) (by omega))) e_int ix0)
      · have hip : EvD K (tOp (gIx K) (tVar 1) (tVar 7)) ((T i).set 9 (.dat (.int (stepAt cr ws i)))) (.int (ps.getD i 0)) := e_op (e_var rfl) (e_var rfl) (ixI (by omega))
        have ht : EvTt K (tOr (tNot (tTest (tChain (gLe) (gLe) (tC (.int 0)) (tVar 8) (tVar 4)))) (tNot (tTest (tChain (gLe) (gLe) (tOp (gSub) (tOp (gIx K) (tVar 1) (tVar 7)) (tVar 9)) (tVar 8) (tOp (gAdd K) (tOp (gIx K) (tVar 1) (tVar 7)) (tVar 9)))))) ((T i).set 9 (.dat (.int (stepAt cr ws i)))) (!decide (InK e cr ps row ws i)) := by
          refine t_is (t_or (t_not (t_test (e_chain e_int (e_var rfl) d_leI (fun _ => e_var rfl) (fun _ => d_leI)))) (fun _ => t_not (t_test (e_chain (e_op hip (e_var rfl) d_subI) (e_var rfl) d_leI (fun _ => e_op hip (e_var rfl) d_addI) (fun _ => d_leI))))) ?_
          rw [← Bool.not_and]
          congr 1
          rw [Bool.eq_iff_iff]
          simp only [Bool.and_eq_true, decide_eq_true_eq]
          exact Iff.rfl
        show StD K _ _ (if InK e cr ps row ws i then _ else _)
        by_cases hin : InK e cr ps row ws i
        · rw [if_pos hin]
          exact st_if (x := false) (t_is ht (by rw [decide_eq_true hin]; rfl)) (fun q => nomatch q) (fun _ => st_next)
        · rw [if_neg hin]
          exact st_if (x := true) (t_is ht (by rw [decide_eq_false hin]; rfl)) (fun _ => st_ret e_bl) (fun q => nomatch q)
    · rw [enum_len, hlr] at hi
      exact h1 i hi
    · rw [enum_len, hlr] at h
      exact h2 h
  have hgo : ∀ i, InK e cr ps row ws i → Goes (S i) B := fun i hi => ⟨_, .inl (if_pos hi), Wk.keep (Wk.keep (Wk.keep (Wk.keep (Wk.keep (Wk.keep (Wk.keep (Wk.drop (Wk.drop (Wk.drop Wk.nil)))))))))⟩
  by_cases hall : ∀ k, k < row.length → InK e cr ps row ws k
  · refine st_seq (hfor (.nx B) (fun i hi => .inl (hgo i (hall i hi))) (fun _ => rfl)) (st_ret ?_)
    refine e_is (e_cb (s_cons (e_is (b := .lst ((sq (fun i => decide (r ≤ row.getD (i + 1) 0 - row.getD i 0)) (row.length - 1)).map D.bl)) (e_share (o_lcM (fun d => match d with | .int j => .bl (decide (r ≤ row.getD j.toNat 0 - row.getD (j - 1).toNat 0)) | _ => .non) (it_rng2 (lo := 1) (n := (row.length : Int)) (s_cons e_int (s_cons (e_is (e_cb (s_cons (e_var rfl) s_nil) n_lenL) (by rw [hlr])) s_nil)) (by omega)) (by rw [rngD_len]; omega) (fun d hd => ?_))) ?_) s_nil) n_all) ?_
    · obtain ⟨i, hi, rfl⟩ := rngD_mem hd
      have e1 : (1 + (i : Int)).toNat = i + 1 := by omega
      have e2 : (1 + (i : Int) - 1).toNat = i := by omega
      have hi' : i + 1 < row.length := by omega
      show EvD K _ _ (.bl (decide (r ≤ row.getD (1 + (i : Int)).toNat 0 - row.getD (1 + (i : Int) - 1).toNat 0)))
      exact e_op (e_op (e_op (e_var rfl) (e_var rfl) (d_ixI (by omega) (by omega))) (e_op (e_var rfl) (e_op (e_var rfl) e_int d_subI) (d_ixI (by omega) (by omega))) d_subI) (e_var rfl) d_geI
    · unfold rngD sq
      rw [List.map_map, List.map_map]
      have e : ((row.length : Int) - 1).toNat = row.length - 1 := by omega
      rw [e]
      congr 1
      refine List.map_congr_left fun i _ => ?_
      show D.bl (decide (r ≤ row.getD (1 + (i : Int)).toNat 0 - row.getD (1 + (i : Int) - 1).toNat 0)) = D.bl (decide (r ≤ row.getD (i + 1) 0 - row.getD i 0))
      have e1 : (1 + (i : Int)).toNat = i + 1 := by omega
      have e2 : (1 + (i : Int) - 1).toNat = i := by omega
      rw [e1, e2]
    · unfold isLet
      rw [decide_eq_true hall]
      rfl
  · have hf : isLet e r cr ps row ws = false := by
      unfold isLet
      rw [decide_eq_false hall]
      rfl
    rw [hf]
    refine st_stop (hfor (.rt (.bl false)) (fun i hi => ?_) (fun h => ?_)) (fun _ q => nomatch q)
    · by_cases q : InK e cr ps row ws i
      · exact .inl (hgo i q)
      · exact .inr (.inl ⟨.bl false, if_neg q, rfl⟩)
    · refine absurd (fun k hk => ?_) hall
      by_cases q : InK e cr ps row ws k
      · exact q
      · obtain ⟨C', z, _⟩ := h k hk
        have : S k = .rt (.bl false) := if_neg q
        rw [this] at z
        rcases z with z | z <;> cases z

def fU (r : Int) (ps : List Int) (c : Nat) (p : Int) (i k : Nat) : Int := if k < c then ps.getD k 0 else if k ≤ c + i then upR r ps c p (k - c) else ps.getD k 0
def fD (r : Int) (ps : List Int) (c : Nat) (p : Int) (i k : Nat) : Int := if k < c - i then ps.getD k 0 else if k < c then dnR r ps c p (c - k) else upR r ps c p (k - c)
theorem fU_lt {r : Int} {ps : List Int} {c : Nat} {p : Int} {i k : Nat} (h : k < c) : fU r ps c p i k = ps.getD k 0 := by
  unfold fU
  rw [if_pos h]
theorem fU_mid {r : Int} {ps : List Int} {c : Nat} {p : Int} {i k : Nat} (h : c ≤ k) (h2 : k ≤ c + i) : fU r ps c p i k = upR r ps c p (k - c) := by
  unfold fU
  rw [if_neg (Nat.not_lt.mpr h), if_pos h2]
theorem fU_gt {r : Int} {ps : List Int} {c : Nat} {p : Int} {i k : Nat} (h : c + i < k) : fU r ps c p i k = ps.getD k 0 := by
  unfold fU
  rw [if_neg (Nat.not_lt.mpr (Nat.le_trans (Nat.le_add_right c i) (Nat.le_of_lt h))), if_neg (Nat.not_le.mpr h)]
theorem fD_lt {r : Int} {ps : List Int} {c : Nat} {p : Int} {i k : Nat} (h : k < c - i) : fD r ps c p i k = ps.getD k 0 := by
  unfold fD
  rw [if_pos h]
theorem fD_mid {r : Int} {ps : List Int} {c : Nat} {p : Int} {i k : Nat} (h : c - i ≤ k) (h2 : k < c) : fD r ps c p i k = dnR r ps c p (c - k) := by
  unfold fD
  rw [if_neg (Nat.not_lt.mpr h), if_pos h2]
theorem fD_hi {r : Int} {ps : List Int} {c : Nat} {p : Int} {i k : Nat} (h : c ≤ k) : fD r ps c p i k = upR r ps c p (k - c) := by
  unfold fD
  rw [if_neg (Nat.not_lt.mpr (Nat.le_trans (Nat.sub_le c i) h)), if_neg (Nat.not_lt.mpr h)]
theorem set_ints {f g : Nat → Int} {n j : Nat} {x : Int} (h : ∀ k, k < n → (if k = j then x else f k) = g k) : ((sq f n).map D.int).set j (.int x) = (sq g n).map D.int := by
  rw [← List.map_set, sq_set, sq_ext h]
theorem rd_l_by (K : PySem.W.Frag) (Z : CF K c_Rail) {ds l : List D} (h : R_l_by ds l) : StD K (t_l_by K c_Rail) (args nm_l_by.length ds) (.ro l) := by
  obtain ⟨e, r, cr, ps, ws, c, p, rfl, hc, h6, rfl⟩ := h
  unfold t_l_by
  refine st_seq (st_asg (d := .int r) (e_op (e_var rfl) e_int (d_ixT (by rfl))) g_name) ?_
  refine st_seq (st_asgO (o_cb (s_cons (e_var rfl) s_nil) n_listL)) ?_
  refine st_seq (st_setI (i := 6) (j := c) rfl (e_var rfl) (e_var rfl) (by rw [List.length_map]; exact hc)) ?_
  have hset0 : (ps.map D.int).set c (.int p) = (sq (fU r ps c p 0) ps.length).map D.int := by
    conv => lhs; rw [sq_of 0 ps]
    refine set_ints fun k hk => ?_
    by_cases q : k = c
    · subst q
      rw [if_pos rfl, fU_mid (Nat.le_refl k) (Nat.le_add_right k 0), Nat.sub_self]
      rfl
    · rw [if_neg q]
      by_cases z : k < c
      · rw [fU_lt z]
      · rw [fU_gt (by omega)]
  let C : Nat → List Sl := fun i => [.dat (toldD e r cr), .dat (.lst (ps.map D.int)), .dat (wsD ws), .dat (nat c), .dat (.int p), .dat (.int r), .own (.lst ((sq (fU r ps c p i) ps.length).map D.int)), .no]
  have e0 : ([.dat (toldD e r cr), .dat (.lst (ps.map D.int)), .dat (wsD ws), .dat (nat c), .dat (.int p), .dat (.int r), .own (.lst ((ps.map D.int).set c (.int p))), .no] : List Sl) = C 0 := by rw [hset0]
  show StD K _ [.dat (toldD e r cr), .dat (.lst (ps.map D.int)), .dat (wsD ws), .dat (nat c), .dat (.int p), .dat (.int r), .own (.lst ((ps.map D.int).set c (.int p))), .no] _
  rw [e0]
  let T : Nat → List Sl := fun i => (C i).set 7 (.dat (nat (c + 1 + i)))
  refine st_seq (G1 := C (ps.length - (c + 1))) (st_for (it_rng2 (lo := ((c + 1 : Nat) : Int)) (n := (ps.length : Int)) (s_cons (e_op (e_var rfl) e_int d_addI) (s_cons (e_look (i := 6) rfl (e_is (e_cb (s_cons (e_var rfl) s_nil) n_lenL) (by rw [sq_ints])) (by rfl)) s_nil)) (by omega)) C rfl T (fun i d hd => ?_)
    (fun i => .nx ((T i).set 6 (.own (.lst ((sq (fU r ps c p (i + 1)) ps.length).map D.int))))) (fun i hi _ => ?_)
    (fun i hi => .inl ⟨_, .inl rfl, Wk.keep (Wk.keep (Wk.keep (Wk.keep (Wk.keep (Wk.keep (Wk.keep (Wk.drop Wk.nil)))))))⟩) (fun _ => ?_)) ?_
  · obtain ⟨_, rfl⟩ := rngD_get hd
    exact g_name
  · rw [rngD_len] at hi
    have hi' : c + 1 + i < ps.length := by omega
    have hix : ∀ {te : TE} {k : Nat}, EvD K te ((T i).set 6 (.dat (.lst ((sq (fU r ps c p i) ps.length).map D.int)))) (nat k) → k < ps.length → EvD K (tOp (gIx K) (tVar 6) te) (T i) (.int (fU r ps c p i k)) := fun he hk => e_look (i := 6) rfl (e_is (e_op (e_var rfl) he (ixI (by rw [sq_len]; exact hk))) (by rw [sq_getD _ _ _ hk])) (by rfl)
    refine st_is (st_setI (i := 6) (j := c + 1 + i) rfl (e_cb (s_cons (hix (k := c + 1 + i) (e_var rfl) hi') (s_cons (e_op (hix (k := c + i) (e_is (e_op (e_var rfl) e_int d_subI) (by unfold nat; congr 1; omega)) (by omega)) (e_var rfl) d_addI) s_nil)) n_max2) (e_var rfl) (by rw [sq_ints]; exact hi')) ?_
    rw [set_ints (g := fU r ps c p (i + 1)) fun k hk => ?_]
    by_cases q : k = c + 1 + i
    · subst q
      have a1 : fU r ps c p i (c + 1 + i) = ps.getD (c + 1 + i) 0 := fU_gt (by omega)
      have a2 : fU r ps c p i (c + i) = upR r ps c p i := by
        rw [fU_mid (by omega) (by omega)]
        congr 1
        omega
      have a3 : fU r ps c p (i + 1) (c + 1 + i) = upR r ps c p (i + 1) := by
        rw [fU_mid (by omega) (by omega)]
        congr 1
        omega
      rw [if_pos rfl, a1, a2, a3]
      show max (ps.getD (c + 1 + i) 0) (upR r ps c p i + r) = max (ps.getD (c + (i + 1)) 0) (upR r ps c p i + r)
      have e3 : c + 1 + i = c + (i + 1) := by omega
      rw [e3]
    · rw [if_neg q]
      by_cases z : k < c
      · rw [fU_lt z, fU_lt z]
      · by_cases y : k ≤ c + i
        · rw [fU_mid (by omega) y, fU_mid (by omega) (by omega)]
        · rw [fU_gt (by omega), fU_gt (by omega)]
  · rw [rngD_len]
    have : ((ps.length : Int) - ((c + 1 : Nat) : Int)).toNat = ps.length - (c + 1) := by omega
    rw [this]
  let C2 : Nat → List Sl := fun i => [.dat (toldD e r cr), .dat (.lst (ps.map D.int)), .dat (wsD ws), .dat (nat c), .dat (.int p), .dat (.int r), .own (.lst ((sq (fD r ps c p i) ps.length).map D.int)), .no]
  have e2 : C (ps.length - (c + 1)) = C2 0 := by
    show ([.dat (toldD e r cr), .dat (.lst (ps.map D.int)), .dat (wsD ws), .dat (nat c), .dat (.int p), .dat (.int r), .own (.lst ((sq (fU r ps c p (ps.length - (c + 1))) ps.length).map D.int)), .no] : List Sl) = [.dat (toldD e r cr), .dat (.lst (ps.map D.int)), .dat (wsD ws), .dat (nat c), .dat (.int p), .dat (.int r), .own (.lst ((sq (fD r ps c p 0) ps.length).map D.int)), .no]
    rw [sq_ext (f := fU r ps c p (ps.length - (c + 1))) (g := fD r ps c p 0) fun k hk => ?_]
    by_cases z : k < c
    · rw [fU_lt z, fD_lt (by omega)]
    · rw [fU_mid (by omega) (by omega), fD_hi (by omega)]
  rw [e2]
  let T2 : Nat → List Sl := fun i => (C2 i).set 7 (.dat (nat (c - 1 - i)))
  refine st_seq (G1 := C2 c) (st_for (it_revR (a := 0) (b := (c : Int)) (rg_1 (e_var rfl)) (by omega)) C2 rfl T2 (fun i d hd => ?_)
    (fun i => .nx ((T2 i).set 6 (.own (.lst ((sq (fD r ps c p (i + 1)) ps.length).map D.int))))) (fun i hi _ => ?_)
    (fun i hi => .inl ⟨_, .inl rfl, Wk.keep (Wk.keep (Wk.keep (Wk.keep (Wk.keep (Wk.keep (Wk.keep (Wk.drop Wk.nil)))))))⟩) (fun _ => by rw [downD_len]; rfl)) (st_is (st_retV (i := 6) rfl) ?_)
  · obtain ⟨hi, rfl⟩ := downD_get hd
    have e : (0 : Int) + (((c : Int) - 0).toNat : Int) - 1 - (i : Int) = ((c - 1 - i : Nat) : Int) := by omega
    rw [e]
    exact g_name
  · rw [downD_len] at hi
    have hi' : i < c := by omega
    have hix : ∀ {te : TE} {k : Nat}, EvD K te ((T2 i).set 6 (.dat (.lst ((sq (fD r ps c p i) ps.length).map D.int)))) (nat k) → k < ps.length → EvD K (tOp (gIx K) (tVar 6) te) (T2 i) (.int (fD r ps c p i k)) := fun he hk => e_look (i := 6) rfl (e_is (e_op (e_var rfl) he (ixI (by rw [sq_len]; exact hk))) (by rw [sq_getD _ _ _ hk])) (by rfl)
    refine st_is (st_setI (i := 6) (j := c - 1 - i) rfl (e_cb (s_cons (hix (k := c - 1 - i) (e_var rfl) (by omega)) (s_cons (e_op (hix (k := c - i) (e_is (e_op (e_var rfl) e_int d_addI) (by unfold nat; congr 1; omega)) (by omega)) (e_var rfl) d_subI) s_nil)) n_min2) (e_var rfl) (by rw [sq_ints]; omega)) ?_
    rw [set_ints (g := fD r ps c p (i + 1)) fun k hk => ?_]
    by_cases q : k = c - 1 - i
    · subst q
      have a1 : fD r ps c p i (c - 1 - i) = ps.getD (c - 1 - i) 0 := fD_lt (by omega)
      have a2 : fD r ps c p i (c - i) = dnR r ps c p i := by
        by_cases y : i = 0
        · subst y
          rw [fD_hi (by omega), Nat.sub_zero, Nat.sub_self]
          rfl
        · rw [fD_mid (by omega) (by omega)]
          congr 1
          omega
      have a3 : fD r ps c p (i + 1) (c - 1 - i) = dnR r ps c p (i + 1) := by
        rw [fD_mid (by omega) (by omega)]
        congr 1
        omega
      rw [if_pos rfl, a1, a2, a3]
      show min (ps.getD (c - 1 - i) 0) (dnR r ps c p i - r) = min (ps.getD (c - (i + 1)) 0) (dnR r ps c p i - r)
      have e3 : c - 1 - i = c - (i + 1) := by omega
      rw [e3]
    · rw [if_neg q]
      by_cases z : k < c - i
      · rw [fD_lt z, fD_lt (by omega)]
      · by_cases y : k < c
        · rw [fD_mid (by omega) y, fD_mid (by omega) y]
        · rw [fD_hi (by omega), fD_hi (by omega)]
  · have : sq (fD r ps c p c) ps.length = byR r ps c p := by
      unfold byR
      refine sq_ext fun k hk => ?_
      unfold byf
      by_cases z : k < c
      · rw [fD_mid (by omega) z, if_pos z]
      · rw [fD_hi (by omega), if_neg z]
    rw [this]

/-! the law -/
def pwL : List Int := [1, 2, 4, 8, 16, 32]
theorem pwL_in : ∀ i : Nat, i < 6 → 0 < pwL.getD i 0 ∧ pwL.getD i 0 < 100 := by decide
def wksf (num : Int) (i : Nat) : Bool := decide (num / pwL.getD i 0 % 4 = 1)
def nx4 (ns : List Int) (s : Int) (num : Int) (ps : List Int) : List Int := if num % 3 = 1 then byR (rR ns s) ps 0 (lowE (rR ns s) (sides (rE ns s) (rC ns s) ps (sq (wksf num) ps.length)) 0) else ps
def plS (ns : List Int) (s : Int) : Nat → List Int
  | 0 => rP ns s
  | k + 1 => nx4 ns s (mx ns (5 + (k : Int))) (plS ns s k)
theorem giv_ok (ns : List Int) {s : Int} (hs : Scl s) (num : Int) {ps : List Int} (ap : Ap (rE ns s) (rR ns s) ps) (hl : ps.length = rN ns) : Giv (rE ns s) (rR ns s) (rC ns s) ps (sq (wksf num) ps.length) :=
  ⟨rail_ok ns hs, ap, by rw [rC_len, hl], by rw [rC_len, sq_len, hl]⟩
theorem plS_ok (ns : List Int) {s : Int} (hs : Scl s) : ∀ k, Ap (rE ns s) (rR ns s) (plS ns s k) ∧ (plS ns s k).length = rN ns
  | 0 => ⟨rail_ap ns hs, rP_len ns s⟩
  | k + 1 => by
    obtain ⟨h1, h2⟩ := plS_ok ns hs k
    have g := giv_ok ns hs (mx ns (5 + (k : Int))) h1 h2
    have hn := rN_in ns
    show Ap _ _ (nx4 ns s (mx ns (5 + (k : Int))) (plS ns s k)) ∧ (nx4 ns s (mx ns (5 + (k : Int))) (plS ns s k)).length = _
    unfold nx4
    split
    · refine ⟨g.by_ap (by omega) (Int.le_refl _) (fits_le g.spn.fit (by rw [g.spn.len]; omega)), ?_⟩
      unfold byR
      rw [sq_len, h2]
    · exact ⟨h1, h2⟩
theorem rd_law (K : PySem.W.Frag) (Z : CF K c_Rail) {ds : List D} {d : D} (h : R_law ds d) : StD K (t_law K c_Rail) (args nm_law.length ds) (.rt d) := by
  obtain ⟨ns, rfl, rfl⟩ := h
  have hn := rN_in ns
  have m4 : 0 ≤ mx ns 4 % 4 := Int.emod_nonneg _ (by decide)
  have m4' : mx ns 4 % 4 < 4 := Int.emod_lt_of_pos _ (by decide)
  obtain ⟨s, hs, hse⟩ : ∃ s, Scl s ∧ ([1, 1, 1000, 250000] : List Int).getD (mx ns 4 % 4).toNat 0 = s := by
    refine ⟨_, ?_, rfl⟩
    have : ∀ i : Nat, i < 4 → ([1, 1, 1000, 250000] : List Int).getD i 0 = 1 ∨ ([1, 1, 1000, 250000] : List Int).getD i 0 = 1000 ∨ ([1, 1, 1000, 250000] : List Int).getD i 0 = 250000 := by decide
    exact this _ (by omega)
  have ok := rail_ok ns hs
  unfold t_law
  refine st_seq (st_asg (d := .int s) (e_is (e_op (e_is (b := .lst (([1, 1, 1000, 250000] : List Int).map D.int)) (e_share (o_lst (ds := [.int 1, .int 1, .int 1000, .int 250000]) (s_cons e_int (s_cons e_int (s_cons e_int (s_cons e_int s_nil)))) (by show 4 ≤ 100000; decide))) rfl) (e_op (e_mixed rfl (by decide)) e_int (d_mod (by decide))) (d_ixI m4 m4')) (by rw [hse])) g_name) ?_
  refine st_seq (st_asg (e_call (s_cons (e_var rfl) (s_cons (e_var rfl) s_nil)) ⟨ns, s, rfl, hs, rfl⟩) (g_tup (gs_cons g_name (gs_cons g_name (gs_cons g_name (gs_cons g_name gs_nil)))) rfl)) ?_
  refine st_seq (st_asg (d := .obj c_Rail (railFs (rE ns s) (rR ns s) (rC ns s))) (e_make (s_cons (e_var rfl) (s_cons (e_var rfl) (s_cons (e_share (o_cb (s_cons (e_var rfl) s_nil) n_listL)) s_nil))) ⟨rE ns s, rR ns s, rC ns s, rfl, ok, rfl⟩) g_name) ?_
  refine st_seq (st_asg (d := toldD (rE ns s) (rR ns s) (rC ns s)) (e_tup (s_cons (e_var rfl) (s_cons (e_var rfl) (s_cons (e_var rfl) s_nil))) (by show 3 ≤ 100000; decide)) g_name) ?_
  let C : Nat → List Sl := fun k => [.dat (.scr ns), .dat (.int s), .dat (.int (rE ns s)), .dat (.int (rR ns s)), .dat (.lst ((rC ns s).map crD)), .dat (.lst ((plS ns s k).map D.int)), .dat (.obj c_Rail (railFs (rE ns s) (rR ns s) (rC ns s))), .dat (toldD (rE ns s) (rR ns s) (rC ns s)), .no, .no, .no, .no, .no, .no, .no, .no, .no, .no, .no]
  have hmax : max 6 (min (ns.length : Int) 63) ≤ 63 := by omega
  refine st_seq (G1 := C (max 6 (min (ns.length : Int) 63) - 5).toNat) (st_for (it_rng2 (lo := 5) (n := max 6 (min (ns.length : Int) 63)) (s_cons e_int (s_cons (e_cb (s_cons e_int (s_cons (e_cb (s_cons (e_cb (s_cons (e_var rfl) s_nil) n_lenR) (s_cons e_int s_nil)) n_min2) s_nil)) n_max2) s_nil)) (by omega)) C rfl (fun i => (C i).set 8 (.dat (.int (5 + (i : Int))))) (fun i d hd => ?_)
    (fun i => .nx (C (i + 1))) (fun k hk _ => ?_) (fun i hi => .inl ⟨_, .inl rfl, Wk.refl _⟩) (fun _ => by rw [rngD_len])) (st_ret e_bl)
  · obtain ⟨_, rfl⟩ := rngD_get hd
    exact g_name
  rw [rngD_len] at hk
  obtain ⟨hap, hpl⟩ := plS_ok ns hs k
  have g := giv_ok ns hs (mx ns (5 + (k : Int))) hap hpl
  have hnext : plS ns s (k + 1) = nx4 ns s (mx ns (5 + (k : Int))) (plS ns s k) := rfl
  show StD K _ _ (.nx [.dat (.scr ns), .dat (.int s), .dat (.int (rE ns s)), .dat (.int (rR ns s)), .dat (.lst ((rC ns s).map crD)), .dat (.lst ((plS ns s (k + 1)).map D.int)), .dat (.obj c_Rail (railFs (rE ns s) (rR ns s) (rC ns s))), .dat (toldD (rE ns s) (rR ns s) (rC ns s)), .no, .no, .no, .no, .no, .no, .no, .no, .no, .no, .no])
  rw [hnext]
  show StD K _ [.dat (.scr ns), .dat (.int s), .dat (.int (rE ns s)), .dat (.int (rR ns s)), .dat (.lst ((rC ns s).map crD)), .dat (.lst ((plS ns s k).map D.int)), .dat (.obj c_Rail (railFs (rE ns s) (rR ns s) (rC ns s))), .dat (toldD (rE ns s) (rR ns s) (rC ns s)), .dat (.int (5 + (k : Int))), .no, .no, .no, .no, .no, .no, .no, .no, .no, .no] _
  have hn63 : 5 + (k : Int) ≤ 1000 := by omega
  clear hnext
  generalize plS ns s k = ps at hap hpl g
  have hlp : (ps.map D.int).length = ps.length := List.length_map ..
  refine st_seq (st_asg (d := .int (mx ns (5 + (k : Int)))) (e_call (s_cons (e_var rfl) (s_cons (e_var rfl) s_nil)) ⟨ns, 5 + (k : Int), rfl, by omega, hn63, rfl⟩) g_name) ?_
  generalize mx ns (5 + (k : Int)) = num at g
  refine st_seq (st_asg (d := wsD (sq (wksf num) ps.length)) (e_is (e_share (o_lcM (fun d => match d with | .int j => .bl (wksf num j.toNat) | _ => .non) (it_rng1 (n := (ps.length : Int)) (s_cons (e_is (e_cb (s_cons (e_var rfl) s_nil) n_lenL) (by rw [hlp])) s_nil) (by omega)) (by rw [rngD_len]; omega) (fun d hd => ?_))) ?_) g_name) ?_
  · obtain ⟨i, hi, rfl⟩ := rngD_mem hd
    rw [Int.zero_add]
    have hp := pwL_in i (by omega)
    exact e_op (e_op (e_op (e_var rfl) (e_op (e_is (b := .lst (pwL.map D.int)) (e_share (o_lst (ds := [.int 1, .int 2, .int 4, .int 8, .int 16, .int 32]) (s_cons e_int (s_cons e_int (s_cons e_int (s_cons e_int (s_cons e_int (s_cons e_int s_nil)))))) (by show 6 ≤ 100000; decide))) rfl) (e_var rfl) (ixI (ns := pwL) (by show _ < 6; omega))) (d_fdv hp.1 (by omega))) e_int (d_mod (by decide))) e_int d_eqI
  · unfold wsD rngD sq
    rw [List.map_map, List.map_map]
    have e : ((ps.length : Int)).toNat = ps.length := by omega
    rw [e]
    congr 1
    refine List.map_congr_left fun i _ => ?_
    show D.bl (wksf num (0 + (i : Int)).toNat) = D.bl (wksf num i)
    rw [Int.zero_add]
    rfl
  unfold nx4
  generalize sq (wksf num) ps.length = ws at g
  generalize he : rE ns s = e at g
  generalize hr : rR ns s = r at g
  generalize hcr : rC ns s = cr at g
  have hspn := g.spn
  generalize hS : sides e cr ps ws = S at hspn
  have hgo : ∀ c, c < ps.length → ∀ p, lowE r S c ≤ p → p ≤ highE r S c → isLet e r cr ps (byR r ps c p) ws = true := fun c hc p h1 h2 => g.by_let hc (by rw [hS]; exact h1) (by rw [hS]; exact h2)
  have hno : ∀ c, c < ps.length → ∀ p, (p < lowE r S c ∨ highE r S c < p) → isLet e r cr ps (byR r ps c p) ws = false := fun c hc p h1 => g.by_not hc (by rw [hS]; exact h1)
  have hle : ∀ c, c < ps.length → lowE r S c ≤ highE r S c := fun c hc => fits_le hspn.fit (by rw [hspn.len]; exact hc)
  refine st_seq (st_asg (d := wsD ws) (e_share (o_cb (s_cons (e_var rfl) s_nil) n_listL)) g_name) ?_
  refine st_seq (st_asg (d := .lst ((sq (lowE r S) ps.length).map D.int)) (e_share (o_call (s_cons (e_var rfl) (s_cons (e_var rfl) (s_cons (e_var rfl) s_nil))) ⟨e, r, cr, ps, ws, rfl, g, by rw [hS]⟩)) g_name) ?_
  refine st_seq (st_asg (d := .lst ((sq (highE r S) ps.length).map D.int)) (e_share (o_call (s_cons (e_var rfl) (s_cons (e_var rfl) (s_cons (e_var rfl) s_nil))) ⟨e, r, cr, ps, ws, rfl, g, by rw [hS]⟩)) g_name) ?_
  let B : List Sl := [.dat (.scr ns), .dat (.int s), .dat (.int e), .dat (.int r), .dat (.lst (cr.map crD)), .dat (.lst (ps.map D.int)), .dat (.obj c_Rail (railFs e r cr)), .dat (toldD e r cr), .dat (.int (5 + (k : Int))), .dat (.int num), .dat (wsD ws), .no, .dat (wsD ws), .dat (.lst ((sq (lowE r S) ps.length).map D.int)), .dat (.lst ((sq (highE r S) ps.length).map D.int)), .no, .no, .no, .no]
  show StD K _ B _
  have hby : ∀ {G : List Sl} {c : Nat} {p : Int} {tc tp : TE} {E : XK}, c < ps.length → G[7]? = some (.dat (toldD e r cr)) → G[5]? = some (.dat (.lst (ps.map D.int))) → G[10]? = some (.dat (wsD ws)) → EvD K tc G (nat c) → EvD K tp G (.int p) →
      EvD K (tCall (sp_l_by K c_Rail) [] E (tCons (tVar 7) (tCons (tVar 5) (tCons (tVar 10) (tCons tc (tCons tp tNil)))))) G (.lst ((byR r ps c p).map D.int)) := fun {G c p tc tp E} hc h7 h5 h10 h1 h2 =>
    e_share (o_call (s_cons (e_var h7) (s_cons (e_var h5) (s_cons (e_var h10) (s_cons h1 (s_cons h2 s_nil))))) ⟨e, r, cr, ps, ws, c, p, rfl, hc, by omega, rfl⟩)
  have hlet : ∀ {G : List Sl} {c : Nat} {p : Int} {E E2 : XK}, c < ps.length → G[7]? = some (.dat (toldD e r cr)) → G[5]? = some (.dat (.lst (ps.map D.int))) → G[10]? = some (.dat (wsD ws)) → G[11]? = some (.dat (nat c)) → G[18]? = some (.dat (.int p)) →
      EvD K (tCall (sp_l_is_let K c_Rail) [] E (tCons (tVar 7) (tCons (tVar 5) (tCons (tVar 10) (tCons (tCall (sp_l_by K c_Rail) [] E2 (tCons (tVar 7) (tCons (tVar 5) (tCons (tVar 10) (tCons (tVar 11) (tCons (tVar 18) tNil)))))) tNil))))) G (.bl (isLet e r cr ps (byR r ps c p) ws)) := fun {G c p E E2} hc h7 h5 h10 h11 h18 =>
    e_call (s_cons (e_var h7) (s_cons (e_var h5) (s_cons (e_var h10) (s_cons (hby hc h7 h5 h10 (e_var h11) (e_var h18)) s_nil)))) ⟨e, r, cr, ps, ws, byR r ps c p, rfl, g, sq_len _ _, rfl⟩
  refine st_seq (G1 := B) (st_for (it_rng1 (n := (ps.length : Int)) (s_cons (e_is (e_cb (s_cons (e_var rfl) s_nil) n_lenL) (by rw [hlp])) s_nil) (by omega)) (fun _ => B) rfl (fun i => B.set 11 (.dat (nat i))) (fun i d hd => ?_)
    (fun i => .nx ((B.set 11 (.dat (nat i))).set 15 (.dat (.tup [.int (lowE r S i), .int (highE r S i)])))) (fun c hc _ => ?_)
    (fun i hi => .inl ⟨_, .inl rfl, Wk.keep (Wk.keep (Wk.keep (Wk.keep (Wk.keep (Wk.keep (Wk.keep (Wk.keep (Wk.keep (Wk.keep (Wk.keep (Wk.drop (Wk.keep (Wk.keep (Wk.keep (Wk.drop (Wk.keep (Wk.keep (Wk.keep Wk.nil))))))))))))))))))⟩) (fun _ => rfl)) ?_
  · obtain ⟨_, rfl⟩ := rngD_get hd
    rw [Int.zero_add]
    exact g_name
  · rw [rngD_len] at hc
    have hc' : c < ps.length := by omega
    refine st_seq (st_asg (d := .tup [.int (lowE r S c), .int (highE r S c)]) (e_tup (s_cons (e_is (e_op (e_var rfl) (e_var rfl) (ixI (by rw [sq_len]; exact hc'))) (by rw [sq_getD _ _ _ hc'])) (s_cons (e_is (e_op (e_var rfl) (e_var rfl) (ixI (by rw [sq_len]; exact hc'))) (by rw [sq_getD _ _ _ hc'])) s_nil)) (by show 2 ≤ 100000; decide)) g_name) ?_
    let M : List Sl := (B.set 11 (.dat (nat c))).set 15 (.dat (.tup [.int (lowE r S c), .int (highE r S c)]))
    show StD K _ M (.nx M)
    refine st_seq (G1 := M) (st_for (it_rng1 (n := 2) (s_cons e_int s_nil) (by decide)) (fun _ => M) rfl (fun i => M.set 16 (.dat (nat i))) (fun i d hd => ?_)
      (fun i => .nx ((M.set 16 (.dat (nat i))).set 17 (.dat (.tup [.int (lowE r S c), .int (highE r S c)])))) (fun i hi _ => ?_)
      (fun i hi => .inl ⟨_, .inl rfl, Wk.keep (Wk.keep (Wk.keep (Wk.keep (Wk.keep (Wk.keep (Wk.keep (Wk.keep (Wk.keep (Wk.keep (Wk.keep (Wk.keep (Wk.keep (Wk.keep (Wk.keep (Wk.keep (Wk.drop (Wk.drop (Wk.keep Wk.nil))))))))))))))))))⟩) (fun _ => rfl)) ?_
    · obtain ⟨_, rfl⟩ := rngD_get hd
      rw [Int.zero_add]
      exact g_name
    · refine st_seq (st_asg (d := .tup [.int (lowE r S c), .int (highE r S c)]) (e_call (s_cons (e_var rfl) (s_cons (e_var rfl) (s_cons (e_var rfl) (s_cons (e_var rfl) s_nil)))) ⟨e, r, cr, ps, ws, c, rfl, g, hc', by rw [hS]⟩) g_name) ?_
      refine st_if (x := false) (t_is (t_or (t_not (t_B (e_isT (e_var rfl) rfl))) (fun _ => t_or (t_test (e_op (e_var rfl) (e_var rfl) (d_sameN (n := 1) (by rfl) (by decide)))) (fun _ => t_B (e_isB (e_op (e_var rfl) e_int (d_ixT (d := .int (lowE r S c)) (by rfl))) rfl)))) (by rfl)) (fun q => nomatch q) (fun _ => st_next)
    refine st_seq (G1 := M) (st_for (it_tup (e_var rfl)) (fun _ => M) rfl (fun i => M.set 18 (.dat (.int (([lowE r S c, highE r S c] : List Int).getD i 0)))) (fun i d hd => ?_)
      (fun i => .nx (M.set 18 (.dat (.int (([lowE r S c, highE r S c] : List Int).getD i 0))))) (fun i hi _ => ?_)
      (fun i hi => .inl ⟨_, .inl rfl, Wk.keep (Wk.keep (Wk.keep (Wk.keep (Wk.keep (Wk.keep (Wk.keep (Wk.keep (Wk.keep (Wk.keep (Wk.keep (Wk.keep (Wk.keep (Wk.keep (Wk.keep (Wk.keep (Wk.keep (Wk.keep (Wk.drop Wk.nil))))))))))))))))))⟩) (fun _ => rfl)) ?_
    · obtain ⟨_, rfl⟩ := map_get (f := D.int) (l := [lowE r S c, highE r S c]) 0 hd
      exact g_name
    · have hp : lowE r S c ≤ ([lowE r S c, highE r S c] : List Int).getD i 0 ∧ ([lowE r S c, highE r S c] : List Int).getD i 0 ≤ highE r S c := by
        have := hle c hc'
        match i, hi with
        | 0, _ => exact ⟨Int.le_refl _, this⟩
        | 1, _ => exact ⟨this, Int.le_refl _⟩
      exact st_if (x := false) (t_is (t_not (t_B (hlet hc' rfl rfl rfl rfl rfl))) (by rw [hgo c hc' _ hp.1 hp.2]; rfl)) (fun q => nomatch q) (fun _ => st_next)
    refine st_for (it_tup (l := ([lowE r S c - 1, highE r S c + 1] : List Int).map D.int) (e_tup (s_cons (e_op (e_op (e_var rfl) e_int (d_ixT (by rfl))) e_int d_subI) (s_cons (e_op (e_op (e_var rfl) e_int (d_ixT (by rfl))) e_int d_addI) s_nil)) (by show 2 ≤ 100000; decide))) (fun _ => M) rfl (fun i => M.set 18 (.dat (.int (([lowE r S c - 1, highE r S c + 1] : List Int).getD i 0)))) (fun i d hd => ?_)
      (fun i => .nx (M.set 18 (.dat (.int (([lowE r S c - 1, highE r S c + 1] : List Int).getD i 0))))) (fun i hi _ => ?_)
      (fun i hi => .inl ⟨_, .inl rfl, Wk.keep (Wk.keep (Wk.keep (Wk.keep (Wk.keep (Wk.keep (Wk.keep (Wk.keep (Wk.keep (Wk.keep (Wk.keep (Wk.keep (Wk.keep (Wk.keep (Wk.keep (Wk.keep (Wk.keep (Wk.keep (Wk.drop Wk.nil))))))))))))))))))⟩) (fun _ => rfl)
    · obtain ⟨_, rfl⟩ := map_get (f := D.int) (l := [lowE r S c - 1, highE r S c + 1]) 0 hd
      exact g_name
    · have hp : ([lowE r S c - 1, highE r S c + 1] : List Int).getD i 0 < lowE r S c ∨ highE r S c < ([lowE r S c - 1, highE r S c + 1] : List Int).getD i 0 := by
        match i, hi with
        | 0, _ =>
          left
          show lowE r S c - 1 < _
          omega
        | 1, _ =>
          right
          show _ < highE r S c + 1
          omega
      exact st_if (x := false) (t_is (t_B (hlet hc' rfl rfl rfl rfl rfl)) (by rw [hno c hc' _ hp])) (fun q => nomatch q) (fun _ => st_next)
  refine st_pass (t_test (e_op (e_var rfl) (e_var rfl) (d_sameN (n := 1) (ok_bls ws) (by decide)))) ?_
  have hlast : ∀ (t : TS) (ps' : List Int), StD K t B (.nx (B.set 5 (.dat (.lst (ps'.map D.int))))) → StD K t B (.nx [.dat (.scr ns), .dat (.int s), .dat (.int e), .dat (.int r), .dat (.lst (cr.map crD)), .dat (.lst (ps'.map D.int)), .dat (.obj c_Rail (railFs e r cr)), .dat (toldD e r cr), .no, .no, .no, .no, .no, .no, .no, .no, .no, .no, .no])   := fun t ps' h => st_weak h (Wk.keep (Wk.keep (Wk.keep (Wk.keep (Wk.keep (Wk.keep (Wk.keep (Wk.keep (Wk.drop (Wk.drop (Wk.drop (Wk.drop (Wk.drop (Wk.drop (Wk.drop (Wk.drop (Wk.drop (Wk.drop (Wk.drop Wk.nil)))))))))))))))))))
  refine hlast _ _ (st_asg ?_ g_name)
  have hpos : 0 < ps.length := by omega
  by_cases h3 : num % 3 = 1
  · rw [if_pos h3]
    exact e_if (x := true) (t_is (t_test (e_op (e_op (e_var rfl) e_int (d_mod (by decide))) e_int d_eqI)) (decide_eq_true h3)) (fun _ => hby (c := 0) hpos rfl rfl rfl e_int (e_is (e_op (e_var rfl) e_int (ixI (i := 0) (by rw [sq_len]; exact hpos))) (by rw [sq_getD _ _ _ hpos]))) (fun q => nomatch q)
  · rw [if_neg h3]
    exact e_if (x := false) (t_is (t_test (e_op (e_op (e_var rfl) e_int (d_mod (by decide))) e_int d_eqI)) (decide_eq_false h3)) (fun q => nomatch q) (fun _ => e_var rfl)
theorem law_end {K : PySem.W.Frag} {H : Hp} {a : Addr} {ns : List Int} (hl : ns.length ≤ 63) (hS : SqL K H a (ns.map V.int)) : sp_law K [.ref a] H (fun v _ => v = .bl true) fun _ _ _ => False := law_endD hS ⟨ns, rfl, rfl⟩

end

/-- what the top has written -/
structure Tx (K : PySem.W.Frag) (mg : Str → Option Value) where
  c_Rail : Addr
  a_span : Addr
  d_span : FuncData
  F_span : Fun K "span" "span" s_span a_span d_span
  m_span : mg "span" = some (.ref a_span)
  a_lows : Addr
  d_lows : FuncData
  F_lows : Fun K "_lows" "_lows" s_lows a_lows d_lows
  m_lows : mg "_lows" = some (.ref a_lows)
  a_highs : Addr
  d_highs : FuncData
  F_highs : Fun K "_highs" "_highs" s_highs a_highs d_highs
  m_highs : mg "_highs" = some (.ref a_highs)
  a_is_among : Addr
  d_is_among : FuncData
  F_is_among : Fun K "is_among" "is_among" s_is_among a_is_among d_is_among
  m_is_among : mg "is_among" = some (.ref a_is_among)
  a_Rail_init : Addr
  d_Rail_init : FuncData
  F_Rail_init : Fun K "__init__" "Rail.__init__" s_Rail_init a_Rail_init d_Rail_init
  mk_Rail : Mk K c_Rail a_Rail_init
  a_is_rail : Addr
  d_is_rail : FuncData
  F_is_rail : Fun K "_is_rail" "_is_rail" s_is_rail a_is_rail d_is_rail
  m_is_rail : mg "_is_rail" = some (.ref a_is_rail)
  a_is_crane : Addr
  d_is_crane : FuncData
  F_is_crane : Fun K "_is_crane" "_is_crane" s_is_crane a_is_crane d_is_crane
  m_is_crane : mg "_is_crane" = some (.ref a_is_crane)
  a_l_cell_at : Addr
  d_l_cell_at : FuncData
  F_l_cell_at : Fun K "_law_cell_at" "_law_cell_at" s_l_cell_at a_l_cell_at d_l_cell_at
  m_l_cell_at : mg "_law_cell_at" = some (.ref a_l_cell_at)
  a_l_mixed : Addr
  d_l_mixed : FuncData
  F_l_mixed : Fun K "_law_mixed" "_law_mixed" s_l_mixed a_l_mixed d_l_mixed
  m_l_mixed : mg "_law_mixed" = some (.ref a_l_mixed)
  a_l_rail : Addr
  d_l_rail : FuncData
  F_l_rail : Fun K "_law_rail" "_law_rail" s_l_rail a_l_rail d_l_rail
  m_l_rail : mg "_law_rail" = some (.ref a_l_rail)
  a_l_lows : Addr
  d_l_lows : FuncData
  F_l_lows : Fun K "_law_lows" "_law_lows" s_l_lows a_l_lows d_l_lows
  m_l_lows : mg "_law_lows" = some (.ref a_l_lows)
  a_l_highs : Addr
  d_l_highs : FuncData
  F_l_highs : Fun K "_law_highs" "_law_highs" s_l_highs a_l_highs d_l_highs
  m_l_highs : mg "_law_highs" = some (.ref a_l_highs)
  a_l_is_let : Addr
  d_l_is_let : FuncData
  F_l_is_let : Fun K "_law_is_let" "_law_is_let" s_l_is_let a_l_is_let d_l_is_let
  m_l_is_let : mg "_law_is_let" = some (.ref a_l_is_let)
  a_l_by : Addr
  d_l_by : FuncData
  F_l_by : Fun K "_law_by" "_law_by" s_l_by a_l_by d_l_by
  m_l_by : mg "_law_by" = some (.ref a_l_by)
  a_law : Addr
  d_law : FuncData
  F_law : Fun K "law" "law" s_law a_law d_law
  m_law : mg "law" = some (.ref a_law)
  g_Rail : mg "Rail" = some (.ref c_Rail)
  Z : CF K c_Rail
  b_all : mg "all" = none
  b_bool : mg "bool" = none
  b_enumerate : mg "enumerate" = none
  b_int : mg "int" = none
  b_isinstance : mg "isinstance" = none
  b_len : mg "len" = none
  b_list : mg "list" = none
  b_max : mg "max" = none
  b_min : mg "min" = none
  b_range : mg "range" = none
  b_reversed : mg "reversed" = none
  b_tuple : mg "tuple" = none
  b_zip : mg "zip" = none
  k_GREATEST_END : Tok
  c_GREATEST_END : mg "GREATEST_END" = some (.int 1000000000000 k_GREATEST_END)
  k_GREATEST_HOIST : Tok
  c_GREATEST_HOIST : mg "GREATEST_HOIST" = some (.int 1000 k_GREATEST_HOIST)
  k_GREATEST_ROOM : Tok
  c_GREATEST_ROOM : mg "GREATEST_ROOM" = some (.int 1000000 k_GREATEST_ROOM)
  k_GREATEST_SPEED : Tok
  c_GREATEST_SPEED : mg "GREATEST_SPEED" = some (.int 1000000000 k_GREATEST_SPEED)
  k_MOST_CRANES : Tok
  c_MOST_CRANES : mg "MOST_CRANES" = some (.int 6 k_MOST_CRANES)
section
variable {P : Program} {w : World} {K : PySem.W.Frag} {mg : Str → Option Value} {base : Heap}
theorem bd_lows (T : Tx K mg) : Binds K T.d_lows ["rail", "places", "at_work"] [] := T.F_lows.binds (ps := ["rail", "places", "at_work"]) fun _ _ _ _ _ _ us hl => match us, hl with | [_, _, _], _ => rfl
theorem ok_lows (T : Tx K mg) : FnOk P w K mg base CX0 1 T.a_lows T.d_lows ["rail", "places", "at_work"] (sp_lows K T.c_Rail) := by
  refine T.F_lows.ok sc_lows (fun vs H Q E h => len_lows h) (fun cdv A outer s H vs Q E hr h => ?_)
  refine ⟨t_lows K T.c_Rail, ?_, body_O (N := nm_lows) h (fun ds d hR => by rw [ln_lows hR]; decide) (fun ds d hR => rd_lows K T.Z hR)⟩
  exact (pss_cons (ps_set (i := 3) sc_lows.nd rfl (by first | exact Or.inl rfl | exact Or.inr rfl) (pe_lst pa_nil))
  (pss_cons (ps_set (i := 4) sc_lows.nd rfl (by first | exact Or.inl rfl | exact Or.inr rfl) (pe_int))
  (pss_cons (ps_for PassesOwn.never rfl (pi_zip3 (by rfl) T.b_zip (pa_cons (pv 1) (pa_cons (pv 2) (pa_cons (pe_fld (pv 0) rfl) pa_nil)))) (pg_tup rfl (pgs_cons (pg_name (i := 5) sc_lows.nd rfl (by first | exact Or.inl rfl | exact Or.inr rfl)) (pgs_cons (pg_name (i := 6) sc_lows.nd rfl (by first | exact Or.inl rfl | exact Or.inr rfl)) (pgs_cons (pg_tup rfl (pgs_cons (pg_name (i := 7) sc_lows.nd rfl (by first | exact Or.inl rfl | exact Or.inr rfl)) (pgs_cons (pg_name (i := 8) sc_lows.nd rfl (by first | exact Or.inl rfl | exact Or.inr rfl)) pgs_nil))) pgs_nil)))) (pss_cons (ps_set (i := 9) sc_lows.nd rfl (by first | exact Or.inl rfl | exact Or.inr rfl) (pe_callB (call_gMax rfl) (by rfl) T.b_max (by decide +kernel) (pa_cons (pv 4) (pa_cons (pe_ifExp (pt_val (pv 6)) (pv 5) (pe_op op_gSub (pv 5) (pv 7))) pa_nil))))
  (pss_cons (ps_expr (pe_bm PySem.F.plainAttrs_list PySem.F.slot_list_append PySem.F.type_list_append mt_append (pv 3) (pa_cons (pv 9) pa_nil)))
  (pss_one (ps_set (i := 4) sc_lows.nd rfl (by first | exact Or.inl rfl | exact Or.inr rfl) (pe_op op_gAdd (pv 9) (pe_fld (pv 0) rfl)))))))
  (pss_one (ps_ret (pv 3))))))
theorem bd_highs (T : Tx K mg) : Binds K T.d_highs ["rail", "places", "at_work"] [] := T.F_highs.binds (ps := ["rail", "places", "at_work"]) fun _ _ _ _ _ _ us hl => match us, hl with | [_, _, _], _ => rfl
theorem ok_highs (T : Tx K mg) : FnOk P w K mg base CX0 1 T.a_highs T.d_highs ["rail", "places", "at_work"] (sp_highs K T.c_Rail) := by
  refine T.F_highs.ok sc_highs (fun vs H Q E h => len_highs h) (fun cdv A outer s H vs Q E hr h => ?_)
  refine ⟨t_highs K T.c_Rail, ?_, body_O (N := nm_highs) h (fun ds d hR => by rw [ln_highs hR]; decide) (fun ds d hR => rd_highs K T.Z hR)⟩
  exact (pss_cons (ps_set (i := 3) sc_highs.nd rfl (by first | exact Or.inl rfl | exact Or.inr rfl) (pe_lst pa_nil))
  (pss_cons (ps_set (i := 4) sc_highs.nd rfl (by first | exact Or.inl rfl | exact Or.inr rfl) (pe_fld (pv 0) rfl))
  (pss_cons (ps_for PassesOwn.never rfl (pi_range3 (by rfl) T.b_range (pa_cons (pe_op op_gSub (pe_callB call_gLen (by rfl) T.b_len (by decide +kernel) (pa_cons (pv 1) pa_nil)) (pe_int)) (pa_cons (pe_un un_neg (pe_int)) (pa_cons (pe_un un_neg (pe_int)) pa_nil)))) (pg_name (i := 5) sc_highs.nd rfl (by first | exact Or.inl rfl | exact Or.inr rfl)) (pss_cons (ps_set (i := 6) sc_highs.nd rfl (by first | exact Or.inl rfl | exact Or.inr rfl) (pe_ifExp (pt_val (pe_ix ix_seq (pv 2) (pv 5) (fun _ _ => rfl))) (pe_int) (pe_ix ix_seq (pe_ix ix_seq (pe_fld (pv 0) rfl) (pv 5) (fun _ _ => rfl)) (pe_int) (fun _ _ => rfl))))
  (pss_cons (ps_set (i := 7) sc_highs.nd rfl (by first | exact Or.inl rfl | exact Or.inr rfl) (pe_callB (call_gMin rfl) (by rfl) T.b_min (by decide +kernel) (pa_cons (pv 4) (pa_cons (pe_op op_gAdd (pe_ix ix_seq (pv 1) (pv 5) (fun _ _ => rfl)) (pv 6)) pa_nil))))
  (pss_cons (ps_expr (pe_bm PySem.F.plainAttrs_list PySem.F.slot_list_append PySem.F.type_list_append mt_append (pv 3) (pa_cons (pv 7) pa_nil)))
  (pss_one (ps_set (i := 4) sc_highs.nd rfl (by first | exact Or.inl rfl | exact Or.inr rfl) (pe_op op_gSub (pv 7) (pe_fld (pv 0) rfl))))))))
  (pss_cons (ps_expr (pe_bm0 PySem.F.plainAttrs_list PySem.F.slot_list_reverse PySem.F.type_list_reverse mt_reverse (pv 3)))
  (pss_one (ps_ret (pv 3)))))))
theorem bd_is_among (T : Tx K mg) : Binds K T.d_is_among ["thing", "least", "most"] [] := T.F_is_among.binds (ps := ["thing", "least", "most"]) fun _ _ _ _ _ _ us hl => match us, hl with | [_, _, _], _ => rfl
theorem ok_is_among (T : Tx K mg) : FnOk P w K mg base CX0 1 T.a_is_among T.d_is_among ["thing", "least", "most"] (sp_is_among K T.c_Rail) := by
  refine T.F_is_among.ok sc_is_among (fun vs H Q E h => len_is_among h) (fun cdv A outer s H vs Q E hr h => ?_)
  refine ⟨t_is_among K T.c_Rail, ?_, body_D (N := nm_is_among) h (fun ds d hR => by rw [ln_is_among hR]; decide) (fun ds d hR => rd_is_among K T.Z hR)⟩
  exact (pss_cons (ps_if (PW.pt (pw_or (pt_not (pt_val (pe_callB call_isi (by rfl) T.b_isinstance (by decide +kernel) (pa_cons (pv 0) (pa_cons (pe_bltn (v := .ty "int") (by rfl) T.b_int (by decide +kernel) rfl) pa_nil))))) (pw_or1 (pt_val (pe_callB call_isi (by rfl) T.b_isinstance (by decide +kernel) (pa_cons (pv 0) (pa_cons (pe_bltn (v := .ty "bool") (by rfl) T.b_bool (by decide +kernel) rfl) pa_nil))))))) (pss_one (ps_ret (pe_bl))) pss_nil)
  (pss_one (ps_ret (pe_chain op_gLe op_gLe (pv 1) (pv 0) (pv 2)))))
theorem bd_l_cell_at (T : Tx K mg) : Binds K T.d_l_cell_at ["_law_script", "_law_k"] [] := T.F_l_cell_at.binds (ps := ["_law_script", "_law_k"]) fun _ _ _ _ _ _ us hl => match us, hl with | [_, _], _ => rfl
theorem ok_l_cell_at (T : Tx K mg) : FnOk P w K mg base CX0 1 T.a_l_cell_at T.d_l_cell_at ["_law_script", "_law_k"] (sp_l_cell_at K T.c_Rail) := by
  refine T.F_l_cell_at.ok sc_l_cell_at (fun vs H Q E h => len_l_cell_at h) (fun cdv A outer s H vs Q E hr h => ?_)
  refine ⟨t_l_cell_at K T.c_Rail, ?_, body_D (N := nm_l_cell_at) h (fun ds d hR => by rw [ln_l_cell_at hR]; decide) (fun ds d hR => rd_l_cell_at K T.Z hR)⟩
  exact (pss_cons (ps_if (pt_cmpR op_gLt (pv 1) (pe_callB call_gLen (by rfl) T.b_len (by decide +kernel) (pa_cons (pv 0) pa_nil)) (nomark _)) (pss_one (ps_ret (pe_ix ix_seq (pv 0) (pv 1) (fun _ _ => rfl)))) pss_nil)
  (pss_one (ps_ret (pe_int))))
theorem bd_l_lows (T : Tx K mg) : Binds K T.d_l_lows ["_law_rail_here", "_law_places", "_law_works"] [] := T.F_l_lows.binds (ps := ["_law_rail_here", "_law_places", "_law_works"]) fun _ _ _ _ _ _ us hl => match us, hl with | [_, _, _], _ => rfl
theorem ok_l_lows (T : Tx K mg) : FnOk P w K mg base CX0 1 T.a_l_lows T.d_l_lows ["_law_rail_here", "_law_places", "_law_works"] (sp_l_lows K T.c_Rail) := by
  refine T.F_l_lows.ok sc_l_lows (fun vs H Q E h => len_l_lows h) (fun cdv A outer s H vs Q E hr h => ?_)
  refine ⟨t_l_lows K T.c_Rail, ?_, body_O (N := nm_l_lows) h (fun ds d hR => by rw [ln_l_lows hR]; decide) (fun ds d hR => rd_l_lows K T.Z hR)⟩
  exact (pss_cons (ps_asg (pv 0) (pg_tup rfl (pgs_cons (pg_name (i := 3) sc_l_lows.nd rfl (by first | exact Or.inl rfl | exact Or.inr rfl)) (pgs_cons (pg_name (i := 4) sc_l_lows.nd rfl (by first | exact Or.inl rfl | exact Or.inr rfl)) (pgs_cons (pg_name (i := 5) sc_l_lows.nd rfl (by first | exact Or.inl rfl | exact Or.inr rfl)) pgs_nil)))))
  (pss_cons (ps_set (i := 6) sc_l_lows.nd rfl (by first | exact Or.inl rfl | exact Or.inr rfl) (pe_lst pa_nil))
  (pss_cons (ps_for PassesOwn.never rfl (pi_enum (by rfl) T.b_enumerate (pa_cons (pv 1) pa_nil)) (pg_tup rfl (pgs_cons (pg_name (i := 7) sc_l_lows.nd rfl (by first | exact Or.inl rfl | exact Or.inr rfl)) (pgs_cons (pg_name (i := 8) sc_l_lows.nd rfl (by first | exact Or.inl rfl | exact Or.inr rfl)) pgs_nil))) (pss_cons (ps_set (i := 9) sc_l_lows.nd rfl (by first | exact Or.inl rfl | exact Or.inr rfl) (pe_ifExp (pt_val (pe_ix ix_seq (pv 2) (pv 7) (fun _ _ => rfl))) (pv 8) (pe_callB (call_gMax rfl) (by rfl) T.b_max (by decide +kernel) (pa_cons (pe_int) (pa_cons (pe_op op_gSub (pv 8) (pe_ix ix_seq (pe_ix ix_seq (pv 5) (pv 7) (fun _ _ => rfl)) (pe_int) (fun _ _ => rfl))) pa_nil)))))
  (pss_one (ps_expr (pe_bm PySem.F.plainAttrs_list PySem.F.slot_list_append PySem.F.type_list_append mt_append (pv 6) (pa_cons (pe_ifExp (pt_cmpR (op_gEq hr.units) (pv 6) (pe_lst pa_nil) (nomark _)) (pv 9) (pe_callB (call_gMax rfl) (by rfl) T.b_max (by decide +kernel) (pa_cons (pv 9) (pa_cons (pe_op op_gAdd (pe_ix ix_seq (pv 6) (pe_un un_neg (pe_int)) (fun _ _ => rfl)) (pv 4)) pa_nil)))) pa_nil))))))
  (pss_one (ps_ret (pv 6))))))
theorem bd_l_highs (T : Tx K mg) : Binds K T.d_l_highs ["_law_rail_here", "_law_places", "_law_works"] [] := T.F_l_highs.binds (ps := ["_law_rail_here", "_law_places", "_law_works"]) fun _ _ _ _ _ _ us hl => match us, hl with | [_, _, _], _ => rfl
theorem ok_l_highs (T : Tx K mg) : FnOk P w K mg base CX0 1 T.a_l_highs T.d_l_highs ["_law_rail_here", "_law_places", "_law_works"] (sp_l_highs K T.c_Rail) := by
  refine T.F_l_highs.ok sc_l_highs (fun vs H Q E h => len_l_highs h) (fun cdv A outer s H vs Q E hr h => ?_)
  refine ⟨t_l_highs K T.c_Rail, ?_, body_O (N := nm_l_highs) h (fun ds d hR => by rw [ln_l_highs hR]; decide) (fun ds d hR => rd_l_highs K T.Z hR)⟩
  exact (pss_cons (ps_asg (pv 0) (pg_tup rfl (pgs_cons (pg_name (i := 3) sc_l_highs.nd rfl (by first | exact Or.inl rfl | exact Or.inr rfl)) (pgs_cons (pg_name (i := 4) sc_l_highs.nd rfl (by first | exact Or.inl rfl | exact Or.inr rfl)) (pgs_cons (pg_name (i := 5) sc_l_highs.nd rfl (by first | exact Or.inl rfl | exact Or.inr rfl)) pgs_nil)))))
  (pss_cons (ps_set (i := 6) sc_l_highs.nd rfl (by first | exact Or.inl rfl | exact Or.inr rfl) (pe_lst pa_nil))
  (pss_cons (ps_for PassesOwn.never rfl (pi_revR (by rfl) T.b_reversed (prg_1 (by rfl) T.b_range (pe_callB call_gLen (by rfl) T.b_len (by decide +kernel) (pa_cons (pv 1) pa_nil)))) (pg_name (i := 7) sc_l_highs.nd rfl (by first | exact Or.inl rfl | exact Or.inr rfl)) (pss_cons (ps_set (i := 8) sc_l_highs.nd rfl (by first | exact Or.inl rfl | exact Or.inr rfl) (pe_ifExp (pt_val (pe_ix ix_seq (pv 2) (pv 7) (fun _ _ => rfl))) (pe_ix ix_seq (pv 1) (pv 7) (fun _ _ => rfl)) (pe_callB (call_gMin rfl) (by rfl) T.b_min (by decide +kernel) (pa_cons (pv 3) (pa_cons (pe_op op_gAdd (pe_ix ix_seq (pv 1) (pv 7) (fun _ _ => rfl)) (pe_ix ix_seq (pe_ix ix_seq (pv 5) (pv 7) (fun _ _ => rfl)) (pe_int) (fun _ _ => rfl))) pa_nil)))))
  (pss_one (ps_expr (pe_bm PySem.F.plainAttrs_list PySem.F.slot_list_append PySem.F.type_list_append mt_append (pv 6) (pa_cons (pe_ifExp (pt_cmpR (op_gEq hr.units) (pv 6) (pe_lst pa_nil) (nomark _)) (pv 8) (pe_callB (call_gMin rfl) (by rfl) T.b_min (by decide +kernel) (pa_cons (pv 8) (pa_cons (pe_op op_gSub (pe_ix ix_seq (pv 6) (pe_un un_neg (pe_int)) (fun _ _ => rfl)) (pv 4)) pa_nil)))) pa_nil))))))
  (pss_one (ps_ret (pe_revL (pv 6)))))))
theorem bd_l_is_let (T : Tx K mg) : Binds K T.d_l_is_let ["_law_rail_here", "_law_places", "_law_works", "_law_row"] [] := T.F_l_is_let.binds (ps := ["_law_rail_here", "_law_places", "_law_works", "_law_row"]) fun _ _ _ _ _ _ us hl => match us, hl with | [_, _, _, _], _ => rfl
theorem ok_l_is_let (T : Tx K mg) : FnOk P w K mg base CX0 1 T.a_l_is_let T.d_l_is_let ["_law_rail_here", "_law_places", "_law_works", "_law_row"] (sp_l_is_let K T.c_Rail) := by
  refine T.F_l_is_let.ok sc_l_is_let (fun vs H Q E h => len_l_is_let h) (fun cdv A outer s H vs Q E hr h => ?_)
  refine ⟨t_l_is_let K T.c_Rail, ?_, body_D (N := nm_l_is_let) h (fun ds d hR => by rw [ln_l_is_let hR]; decide) (fun ds d hR => rd_l_is_let K T.Z hR)⟩
  exact (pss_cons (ps_asg (pv 0) (pg_tup rfl (pgs_cons (pg_name (i := 4) sc_l_is_let.nd rfl (by first | exact Or.inl rfl | exact Or.inr rfl)) (pgs_cons (pg_name (i := 5) sc_l_is_let.nd rfl (by first | exact Or.inl rfl | exact Or.inr rfl)) (pgs_cons (pg_name (i := 6) sc_l_is_let.nd rfl (by first | exact Or.inl rfl | exact Or.inr rfl)) pgs_nil)))))
  (pss_cons (ps_for PassesOwn.never rfl (pi_enum (by rfl) T.b_enumerate (pa_cons (pv 3) pa_nil)) (pg_tup rfl (pgs_cons (pg_name (i := 7) sc_l_is_let.nd rfl (by first | exact Or.inl rfl | exact Or.inr rfl)) (pgs_cons (pg_name (i := 8) sc_l_is_let.nd rfl (by first | exact Or.inl rfl | exact Or.inr rfl)) pgs_nil))) (pss_cons (ps_set (i := 9) sc_l_is_let.nd rfl (by first | exact Or.inl rfl | exact Or.inr rfl) (pe_ifExp (pt_val (pe_ix ix_seq (pv 2) (pv 7) (fun _ _ => rfl))) (pe_int) (pe_ix ix_seq (pe_ix ix_seq (pv 6) (pv 7) (fun _ _ => rfl)) (pe_int) (fun _ _ => rfl))))
  (pss_one (ps_if (PW.pt (pw_or (pt_not (pt_chain op_gLe op_gLe (pe_int) (pv 8) (pv 4))) (pw_or1 (pt_not (pt_chain op_gLe op_gLe (pe_op op_gSub (pe_ix ix_seq (pv 1) (pv 7) (fun _ _ => rfl)) (pv 9)) (pv 8) (pe_op op_gAdd (pe_ix ix_seq (pv 1) (pv 7) (fun _ _ => rfl)) (pv 9))))))) (pss_one (ps_ret (pe_bl))) pss_nil))))
  (pss_one (ps_ret (pe_callB (cr_all rfl) (by rfl) T.b_all (by decide +kernel) (pa_cons (pe_lc (own := [("_law_k", 7)]) (g := (gName 7)) (tt := tYes) (by rfl) sc_l_is_let.nd (pi_range2 (by rfl) T.b_range (pa_cons (pe_int) (pa_cons (pe_callB call_gLen (by rfl) T.b_len (by decide +kernel) (pa_cons (pv 3) pa_nil)) pa_nil))) (blkOk_by (own := [("_law_k", 7)]) (N := nm_l_is_let) (sc := defScope s_l_is_let) (by decide +kernel)) (fun _ _ _ _ _ => (pg_name (i := 7) sc_l_is_let.nd rfl (Or.inl rfl))) (fun _ _ _ _ _ => pts_nil) (fun _ _ _ _ _ => (pe_cmpR op_gGe (pe_op op_gSub (pe_ix ix_seq (pv 3) (pv 7) (fun _ _ => rfl)) (pe_ix ix_seq (pv 3) (pe_op op_gSub (pv 7) (pe_int)) (fun _ _ => rfl))) (pv 5) (nomark _)))) pa_nil))))))
theorem bd_l_by (T : Tx K mg) : Binds K T.d_l_by ["_law_rail_here", "_law_places", "_law_works", "_law_crane", "_law_place"] [] := T.F_l_by.binds (ps := ["_law_rail_here", "_law_places", "_law_works", "_law_crane", "_law_place"]) fun _ _ _ _ _ _ us hl => match us, hl with | [_, _, _, _, _], _ => rfl
theorem ok_l_by (T : Tx K mg) : FnOk P w K mg base CX0 1 T.a_l_by T.d_l_by ["_law_rail_here", "_law_places", "_law_works", "_law_crane", "_law_place"] (sp_l_by K T.c_Rail) := by
  refine T.F_l_by.ok sc_l_by (fun vs H Q E h => len_l_by h) (fun cdv A outer s H vs Q E hr h => ?_)
  refine ⟨t_l_by K T.c_Rail, ?_, body_O (N := nm_l_by) h (fun ds d hR => by rw [ln_l_by hR]; decide) (fun ds d hR => rd_l_by K T.Z hR)⟩
  exact (pss_cons (ps_set (i := 5) sc_l_by.nd rfl (by first | exact Or.inl rfl | exact Or.inr rfl) (pe_ix ix_seq (pv 0) (pe_int) (fun _ _ => rfl)))
  (pss_cons (ps_set (i := 6) sc_l_by.nd rfl (by first | exact Or.inl rfl | exact Or.inr rfl) (pe_callTy call_gList (by rfl) T.b_list (by decide +kernel) (pa_cons (pv 1) pa_nil)))
  (pss_cons (ps_asg (pv 4) (pg_sub (pv 6) (pv 3) set_list))
  (pss_cons (ps_for PassesOwn.never rfl (pi_range2 (by rfl) T.b_range (pa_cons (pe_op op_gAdd (pv 3) (pe_int)) (pa_cons (pe_callB call_gLen (by rfl) T.b_len (by decide +kernel) (pa_cons (pv 6) pa_nil)) pa_nil))) (pg_name (i := 7) sc_l_by.nd rfl (by first | exact Or.inl rfl | exact Or.inr rfl)) (pss_one (ps_asg (pe_callB (call_gMax rfl) (by rfl) T.b_max (by decide +kernel) (pa_cons (pe_ix ix_seq (pv 6) (pv 7) (fun _ _ => rfl)) (pa_cons (pe_op op_gAdd (pe_ix ix_seq (pv 6) (pe_op op_gSub (pv 7) (pe_int)) (fun _ _ => rfl)) (pv 5)) pa_nil))) (pg_sub (pv 6) (pv 7) set_list))))
  (pss_cons (ps_for PassesOwn.never rfl (pi_revR (by rfl) T.b_reversed (prg_1 (by rfl) T.b_range (pv 3))) (pg_name (i := 7) sc_l_by.nd rfl (by first | exact Or.inl rfl | exact Or.inr rfl)) (pss_one (ps_asg (pe_callB (call_gMin rfl) (by rfl) T.b_min (by decide +kernel) (pa_cons (pe_ix ix_seq (pv 6) (pv 7) (fun _ _ => rfl)) (pa_cons (pe_op op_gSub (pe_ix ix_seq (pv 6) (pe_op op_gAdd (pv 7) (pe_int)) (fun _ _ => rfl)) (pv 5)) pa_nil))) (pg_sub (pv 6) (pv 7) set_list))))
  (pss_one (ps_ret (pv 6))))))))
theorem bd_span (T : Tx K mg) : Binds K T.d_span ["rail", "places", "at_work", "crane"] [] := T.F_span.binds (ps := ["rail", "places", "at_work", "crane"]) fun _ _ _ _ _ _ us hl => match us, hl with | [_, _, _, _], _ => rfl
theorem ok_span (T : Tx K mg) : FnOk P w K mg base CX0 2 T.a_span T.d_span ["rail", "places", "at_work", "crane"] (sp_span K T.c_Rail) := by
  refine T.F_span.ok sc_span (fun vs H Q E h => len_span h) (fun cdv A outer s H vs Q E hr h => ?_)
  refine ⟨t_span K T.c_Rail, ?_, body_D (N := nm_span) h (fun ds d hR => by rw [ln_span hR]; decide) (fun ds d hR => rd_span K T.Z hR)⟩
  exact (pss_one (ps_ret (pe_tup (pa_cons (pe_ix ix_seq (pe_call (ok_lows T) (hr.mono (by decide)) (by rfl) T.m_lows T.F_lows.kp (bd_lows T) .nil pass0 (pa_cons (pv 0) (pa_cons (pv 1) (pa_cons (pv 2) pa_nil)))) (pv 3) (fun _ _ => rfl)) (pa_cons (pe_ix ix_seq (pe_call (ok_highs T) (hr.mono (by decide)) (by rfl) T.m_highs T.F_highs.kp (bd_highs T) .nil pass0 (pa_cons (pv 0) (pa_cons (pv 1) (pa_cons (pv 2) pa_nil)))) (pv 3) (fun _ _ => rfl)) pa_nil)))))
theorem bd_is_crane (T : Tx K mg) : Binds K T.d_is_crane ["thing"] [] := T.F_is_crane.binds (ps := ["thing"]) fun _ _ _ _ _ _ us hl => match us, hl with | [_], _ => rfl
theorem ok_is_crane (T : Tx K mg) : FnOk P w K mg base CX0 2 T.a_is_crane T.d_is_crane ["thing"] (sp_is_crane K T.c_Rail) := by
  refine T.F_is_crane.ok sc_is_crane (fun vs H Q E h => len_is_crane h) (fun cdv A outer s H vs Q E hr h => ?_)
  refine ⟨t_is_crane K T.c_Rail, ?_, body_D (N := nm_is_crane) h (fun ds d hR => by rw [ln_is_crane hR]; decide) (fun ds d hR => rd_is_crane K T.Z hR)⟩
  exact (pss_cons (ps_if (PW.pt (pw_or (pt_not (pt_val (pe_callB call_isi (by rfl) T.b_isinstance (by decide +kernel) (pa_cons (pv 0) (pa_cons (pe_bltn (v := .ty "tuple") (by rfl) T.b_tuple (by decide +kernel) rfl) pa_nil))))) (pw_or1 (pt_cmpR (op_gNe hr.units) (pe_callB call_gLen (by rfl) T.b_len (by decide +kernel) (pa_cons (pv 0) pa_nil)) (pe_int) (nomark _))))) (pss_one (ps_ret (pe_bl))) pss_nil)
  (pss_cons (ps_asg (pv 0) (pg_tup rfl (pgs_cons (pg_name (i := 1) sc_is_crane.nd rfl (by first | exact Or.inl rfl | exact Or.inr rfl)) (pgs_cons (pg_name (i := 2) sc_is_crane.nd rfl (by first | exact Or.inl rfl | exact Or.inr rfl)) pgs_nil))))
  (pss_one (ps_ret (pe_and (pe_call (ok_is_among T) (hr.mono (by decide)) (by rfl) T.m_is_among T.F_is_among.kp (bd_is_among T) .nil pass0 (pa_cons (pv 1) (pa_cons (pe_int) (pa_cons (pe_glob rfl T.c_GREATEST_SPEED ⟨_, rfl⟩) pa_nil)))) (pe_one (pe_call (ok_is_among T) (hr.mono (by decide)) (by rfl) T.m_is_among T.F_is_among.kp (bd_is_among T) .nil pass0 (pa_cons (pv 2) (pa_cons (pe_int) (pa_cons (pe_glob rfl T.c_GREATEST_HOIST ⟨_, rfl⟩) pa_nil))))))))))
theorem bd_l_mixed (T : Tx K mg) : Binds K T.d_l_mixed ["_law_script", "_law_k"] [] := T.F_l_mixed.binds (ps := ["_law_script", "_law_k"]) fun _ _ _ _ _ _ us hl => match us, hl with | [_, _], _ => rfl
theorem ok_l_mixed (T : Tx K mg) : FnOk P w K mg base CX0 2 T.a_l_mixed T.d_l_mixed ["_law_script", "_law_k"] (sp_l_mixed K T.c_Rail) := by
  refine T.F_l_mixed.ok sc_l_mixed (fun vs H Q E h => len_l_mixed h) (fun cdv A outer s H vs Q E hr h => ?_)
  refine ⟨t_l_mixed K T.c_Rail, ?_, body_D (N := nm_l_mixed) h (fun ds d hR => by rw [ln_l_mixed hR]; decide) (fun ds d hR => rd_l_mixed K T.Z hR)⟩
  exact (pss_cons (ps_set (i := 2) sc_l_mixed.nd rfl (by first | exact Or.inl rfl | exact Or.inr rfl) (pe_call (ok_l_cell_at T) (hr.mono (by decide)) (by rfl) T.m_l_cell_at T.F_l_cell_at.kp (bd_l_cell_at T) .nil pass0 (pa_cons (pv 0) (pa_cons (pv 1) pa_nil))))
  (pss_cons (ps_if (PW.pt (pw_and (pt_cmpR (op_gNe hr.units) (pv 0) (pe_lst pa_nil) (nomark _)) (pw_and1 (pt_cmpR (op_gEq hr.units) (pe_op op_gMod (pe_ix ix_seq (pv 0) (pe_int) (fun _ _ => rfl)) (pe_int)) (pe_int) (nomark _))))) (pss_one (ps_ret (pe_op op_gFdv (pe_op op_gMod (pv 2) (pe_op op_gMul (pe_int) (pe_op op_gPow (pe_int) (pe_int)))) (pe_int)))) pss_nil)
  (pss_cons (ps_set (i := 3) sc_l_mixed.nd rfl (by first | exact Or.inl rfl | exact Or.inr rfl) (pe_op op_gMod (pe_op op_gAdd (pe_op op_gAdd (pe_op op_gMul (pv 2) (pe_int)) (pe_op op_gMul (pe_int) (pv 1))) (pe_int)) (pe_int)))
  (pss_one (ps_ret (pe_op op_gMod (pe_op op_gMul (pv 3) (pe_op op_gAdd (pv 3) (pe_op op_gMul (pe_int) (pv 1)))) (pe_int)))))))
theorem bd_is_rail (T : Tx K mg) : Binds K T.d_is_rail ["end", "room", "cranes"] [] := T.F_is_rail.binds (ps := ["end", "room", "cranes"]) fun _ _ _ _ _ _ us hl => match us, hl with | [_, _, _], _ => rfl
theorem ok_is_rail (T : Tx K mg) : FnOk P w K mg base CX0 3 T.a_is_rail T.d_is_rail ["end", "room", "cranes"] (sp_is_rail K T.c_Rail) := by
  refine T.F_is_rail.ok sc_is_rail (fun vs H Q E h => len_is_rail h) (fun cdv A outer s H vs Q E hr h => ?_)
  refine ⟨t_is_rail K T.c_Rail, ?_, body_D (N := nm_is_rail) h (fun ds d hR => by rw [ln_is_rail hR]; decide) (fun ds d hR => rd_is_rail K T.Z hR)⟩
  exact (pss_cons (ps_if (PW.pt (pw_or (pt_not (pt_val (pe_call (ok_is_among T) (hr.mono (by decide)) (by rfl) T.m_is_among T.F_is_among.kp (bd_is_among T) .nil pass0 (pa_cons (pv 0) (pa_cons (pe_int) (pa_cons (pe_glob rfl T.c_GREATEST_END ⟨_, rfl⟩) pa_nil)))))) (pw_or1 (pt_not (pt_val (pe_call (ok_is_among T) (hr.mono (by decide)) (by rfl) T.m_is_among T.F_is_among.kp (bd_is_among T) .nil pass0 (pa_cons (pv 1) (pa_cons (pe_int) (pa_cons (pe_glob rfl T.c_GREATEST_ROOM ⟨_, rfl⟩) pa_nil))))))))) (pss_one (ps_ret (pe_bl))) pss_nil)
  (pss_cons (ps_if (PW.pt (pw_or (pt_not (pt_val (pe_callB call_isi (by rfl) T.b_isinstance (by decide +kernel) (pa_cons (pv 2) (pa_cons (pe_bltn (v := .ty "list") (by rfl) T.b_list (by decide +kernel) rfl) pa_nil))))) (pw_or1 (pt_not (pt_chain op_gLe op_gLe (pe_int) (pe_callB call_gLen (by rfl) T.b_len (by decide +kernel) (pa_cons (pv 2) pa_nil)) (pe_glob rfl T.c_MOST_CRANES ⟨_, rfl⟩)))))) (pss_one (ps_ret (pe_bl))) pss_nil)
  (pss_cons (ps_if (pt_not (pt_val (pe_callB (cr_all rfl) (by rfl) T.b_all (by decide +kernel) (pa_cons (pe_lc (own := [("crane", 3)]) (g := (gName 3)) (tt := tYes) (by rfl) sc_is_rail.nd (pi_list (pv 2)) (blkOk_by (own := [("crane", 3)]) (N := nm_is_rail) (sc := defScope s_is_rail) (by decide +kernel)) (fun _ _ _ _ _ => (pg_name (i := 3) sc_is_rail.nd rfl (Or.inl rfl))) (fun _ _ _ _ _ => pts_nil) (fun _ _ _ _ _ => (pe_call (ok_is_crane T) (hr.mono (by decide)) (by rfl) T.m_is_crane T.F_is_crane.kp (bd_is_crane T) .nil pass0 (pa_cons (pv 3) pa_nil)))) pa_nil)))) (pss_one (ps_ret (pe_bl))) pss_nil)
  (pss_one (ps_ret (pe_cmpR op_gLe (pe_op op_gMul (pe_op op_gSub (pe_callB call_gLen (by rfl) T.b_len (by decide +kernel) (pa_cons (pv 2) pa_nil)) (pe_int)) (pv 1)) (pv 0) (nomark _)))))))
theorem bd_l_rail (T : Tx K mg) : Binds K T.d_l_rail ["_law_script", "_law_scale"] [] := T.F_l_rail.binds (ps := ["_law_script", "_law_scale"]) fun _ _ _ _ _ _ us hl => match us, hl with | [_, _], _ => rfl
theorem ok_l_rail (T : Tx K mg) : FnOk P w K mg base CX0 3 T.a_l_rail T.d_l_rail ["_law_script", "_law_scale"] (sp_l_rail K T.c_Rail) := by
  refine T.F_l_rail.ok sc_l_rail (fun vs H Q E h => len_l_rail h) (fun cdv A outer s H vs Q E hr h => ?_)
  refine ⟨t_l_rail K T.c_Rail, ?_, body_D (N := nm_l_rail) h (fun ds d hR => by rw [ln_l_rail hR]; decide) (fun ds d hR => rd_l_rail K T.Z hR)⟩
  exact (pss_cons (ps_set (i := 2) sc_l_rail.nd rfl (by first | exact Or.inl rfl | exact Or.inr rfl) (pe_op op_gAdd (pe_int) (pe_op op_gMod (pe_call (ok_l_mixed T) (hr.mono (by decide)) (by rfl) T.m_l_mixed T.F_l_mixed.kp (bd_l_mixed T) .nil pass0 (pa_cons (pv 0) (pa_cons (pe_int) pa_nil))) (pe_int))))
  (pss_cons (ps_set (i := 3) sc_l_rail.nd rfl (by first | exact Or.inl rfl | exact Or.inr rfl) (pe_op op_gMul (pv 1) (pe_op op_gAdd (pe_int) (pe_op op_gMod (pe_op op_gFdv (pe_call (ok_l_mixed T) (hr.mono (by decide)) (by rfl) T.m_l_mixed T.F_l_mixed.kp (bd_l_mixed T) .nil pass0 (pa_cons (pv 0) (pa_cons (pe_int) pa_nil))) (pe_int)) (pe_int)))))
  (pss_cons (ps_set (i := 4) sc_l_rail.nd rfl (by first | exact Or.inl rfl | exact Or.inr rfl) (pe_lst pa_nil))
  (pss_cons (ps_set (i := 5) sc_l_rail.nd rfl (by first | exact Or.inl rfl | exact Or.inr rfl) (pe_op op_gMul (pe_ix ix_seq (pe_lst (pa_cons (pe_int) (pa_cons (pe_op op_gAdd (pe_op op_gPow (pe_int) (pe_int)) (pe_int)) (pa_cons (pe_op op_gSub (pe_op op_gPow (pe_int) (pe_int)) (pe_op op_gPow (pe_int) (pe_int))) pa_nil)))) (pe_op op_gMod (pe_op op_gFdv (pe_call (ok_l_mixed T) (hr.mono (by decide)) (by rfl) T.m_l_mixed T.F_l_mixed.kp (bd_l_mixed T) .nil pass0 (pa_cons (pv 0) (pa_cons (pe_int) pa_nil))) (pe_int)) (pe_int)) (fun _ _ => rfl)) (pe_callTy call_gInt (by rfl) T.b_int (by decide +kernel) (pa_cons (pe_cmpR op_gGt (pv 1) (pe_int) (nomark _)) pa_nil))))
  (pss_cons (ps_set (i := 6) sc_l_rail.nd rfl (by first | exact Or.inl rfl | exact Or.inr rfl) (pe_op op_gAdd (pv 5) (pe_op op_gMul (pv 1) (pe_op op_gMod (pe_call (ok_l_mixed T) (hr.mono (by decide)) (by rfl) T.m_l_mixed T.F_l_mixed.kp (bd_l_mixed T) .nil pass0 (pa_cons (pv 0) (pa_cons (pe_int) pa_nil))) (pe_int)))))
  (pss_cons (ps_for PassesOwn.never rfl (pi_range1 (by rfl) T.b_range (pa_cons (pv 2) pa_nil)) (pg_name (i := 7) sc_l_rail.nd rfl (by first | exact Or.inl rfl | exact Or.inr rfl)) (pss_cons (ps_expr (pe_bm PySem.F.plainAttrs_list PySem.F.slot_list_append PySem.F.type_list_append mt_append (pv 4) (pa_cons (pv 6) pa_nil)))
  (pss_one (ps_set (i := 6) sc_l_rail.nd rfl (by first | exact Or.inl rfl | exact Or.inr rfl) (pe_op op_gAdd (pe_op op_gAdd (pe_op op_gAdd (pv 6) (pv 3)) (pe_op op_gMul (pv 1) (pe_op op_gMod (pe_op op_gFdv (pe_call (ok_l_mixed T) (hr.mono (by decide)) (by rfl) T.m_l_mixed T.F_l_mixed.kp (bd_l_mixed T) .nil pass0 (pa_cons (pv 0) (pa_cons (pe_int) pa_nil))) (pe_op op_gAdd (pe_int) (pe_op op_gMul (pe_int) (pv 7)))) (pe_int)))) (pe_op op_gMod (pe_op op_gFdv (pe_call (ok_l_mixed T) (hr.mono (by decide)) (by rfl) T.m_l_mixed T.F_l_mixed.kp (bd_l_mixed T) .nil pass0 (pa_cons (pv 0) (pa_cons (pe_int) pa_nil))) (pe_op op_gAdd (pe_int) (pv 7))) (pv 1)))))))
  (pss_cons (ps_set (i := 8) sc_l_rail.nd rfl (by first | exact Or.inl rfl | exact Or.inr rfl) (pe_op op_gAdd (pe_ix ix_seq (pv 4) (pe_un un_neg (pe_int)) (fun _ _ => rfl)) (pe_op op_gMul (pv 1) (pe_op op_gAdd (pe_int) (pe_op op_gMod (pe_op op_gFdv (pe_call (ok_l_mixed T) (hr.mono (by decide)) (by rfl) T.m_l_mixed T.F_l_mixed.kp (bd_l_mixed T) .nil pass0 (pa_cons (pv 0) (pa_cons (pe_int) pa_nil))) (pe_int)) (pe_int))))))
  (pss_cons (ps_set (i := 9) sc_l_rail.nd rfl (by first | exact Or.inl rfl | exact Or.inr rfl) (pe_lst pa_nil))
  (pss_cons (ps_for PassesOwn.never rfl (pi_range1 (by rfl) T.b_range (pa_cons (pv 2) pa_nil)) (pg_name (i := 7) sc_l_rail.nd rfl (by first | exact Or.inl rfl | exact Or.inr rfl)) (pss_cons (ps_set (i := 10) sc_l_rail.nd rfl (by first | exact Or.inl rfl | exact Or.inr rfl) (pe_op op_gMul (pv 1) (pe_op op_gAdd (pe_int) (pe_op op_gMod (pe_op op_gFdv (pe_call (ok_l_mixed T) (hr.mono (by decide)) (by rfl) T.m_l_mixed T.F_l_mixed.kp (bd_l_mixed T) .nil pass0 (pa_cons (pv 0) (pa_cons (pe_int) pa_nil))) (pe_op op_gAdd (pe_int) (pe_op op_gMul (pe_int) (pv 7)))) (pe_int)))))
  (pss_one (ps_expr (pe_bm PySem.F.plainAttrs_list PySem.F.slot_list_append PySem.F.type_list_append mt_append (pv 9) (pa_cons (pe_tup (pa_cons (pv 10) (pa_cons (pe_op op_gAdd (pe_int) (pe_op op_gMod (pe_op op_gFdv (pe_call (ok_l_mixed T) (hr.mono (by decide)) (by rfl) T.m_l_mixed T.F_l_mixed.kp (bd_l_mixed T) .nil pass0 (pa_cons (pv 0) (pa_cons (pe_int) pa_nil))) (pe_op op_gAdd (pe_int) (pe_op op_gMul (pe_int) (pv 7)))) (pe_int))) pa_nil))) pa_nil))))))
  (pss_one (ps_ret (pe_tup (pa_cons (pv 8) (pa_cons (pv 3) (pa_cons (pv 9) (pa_cons (pv 4) pa_nil))))))))))))))))
theorem bd_Rail_init (T : Tx K mg) : Binds K T.d_Rail_init ["self", "end", "room", "cranes"] [] := T.F_Rail_init.binds (ps := ["self", "end", "room", "cranes"]) fun _ _ _ _ _ _ us hl => match us, hl with | [_, _, _, _], _ => rfl
theorem ok_Rail_init (T : Tx K mg) : FnOk P w K mg base CX0 4 T.a_Rail_init T.d_Rail_init ["self", "end", "room", "cranes"] (sp_Rail_init K T.c_Rail) := by
  refine T.F_Rail_init.ok sc_Rail_init (fun vs H Q E h => len_Rail_init h) (fun cdv A outer s H vs Q E hr h => ?_)
  refine ⟨t_Rail_init K T.c_Rail, ?_, body_I (N := nm_Rail_init) h (fun ds d hR => by rw [ln_Rail_init hR]; decide) (fun x ds d hR => rd_Rail_init K T.Z hR)⟩
  exact (pss_cons (ps_if (pt_not (pt_val (pe_call (ok_is_rail T) (hr.mono (by decide)) (by rfl) T.m_is_rail T.F_is_rail.kp (bd_is_rail T) .nil pass0 (pa_cons (pv 1) (pa_cons (pv 2) (pa_cons (pv 3) pa_nil)))))) (pss_one (ps_never)) pss_nil)
  (pss_cons (ps_fld (pv 0) (pv 1) rfl)
  (pss_cons (ps_fld (pv 0) (pv 2) rfl)
  (pss_one (ps_fld (pv 0) (pe_callTy call_gTuple (by rfl) T.b_tuple (by decide +kernel) (pa_cons (pe_lc (own := [("speed", 4), ("hoist", 5)]) (g := (gTup K 2 (gCons (gName 4) (gCons (gName 5) gNil)))) (tt := tYes) (by rfl) sc_Rail_init.nd (pi_list (pv 3)) (blkOk_by (own := [("speed", 4), ("hoist", 5)]) (N := nm_Rail_init) (sc := defScope s_Rail_init) (by decide +kernel)) (fun _ _ _ _ _ => (pg_tup rfl (pgs_cons (pg_name (i := 4) sc_Rail_init.nd rfl (Or.inl rfl)) (pgs_cons (pg_name (i := 5) sc_Rail_init.nd rfl (Or.inl rfl)) pgs_nil)))) (fun _ _ _ _ _ => pts_nil) (fun _ _ _ _ _ => (pe_tup (pa_cons (pv 4) (pa_cons (pv 5) pa_nil))))) pa_nil)) rfl)))))
theorem bd_law (T : Tx K mg) : Binds K T.d_law ["_law_script"] [] := T.F_law.binds (ps := ["_law_script"]) fun _ _ _ _ _ _ us hl => match us, hl with | [_], _ => rfl
theorem ok_law (T : Tx K mg) : FnOk P w K mg base CX0 6 T.a_law T.d_law ["_law_script"] (sp_law K) := by
  refine T.F_law.ok sc_law (fun vs H Q E h => len_law h) (fun cdv A outer s H vs Q E hr h => ?_)
  refine ⟨t_law K T.c_Rail, ?_, body_D (N := nm_law) h (fun ds d hR => by rw [ln_law hR]; decide) (fun ds d hR => rd_law K T.Z hR)⟩
  exact (pss_cons (ps_set (i := 1) sc_law.nd rfl (by first | exact Or.inl rfl | exact Or.inr rfl) (pe_ix ix_seq (pe_lst (pa_cons (pe_int) (pa_cons (pe_int) (pa_cons (pe_int) (pa_cons (pe_int) pa_nil))))) (pe_op op_gMod (pe_call (ok_l_mixed T) (hr.mono (by decide)) (by rfl) T.m_l_mixed T.F_l_mixed.kp (bd_l_mixed T) .nil pass0 (pa_cons (pv 0) (pa_cons (pe_int) pa_nil))) (pe_int)) (fun _ _ => rfl)))
  (pss_cons (ps_asg (pe_call (ok_l_rail T) (hr.mono (by decide)) (by rfl) T.m_l_rail T.F_l_rail.kp (bd_l_rail T) .nil pass0 (pa_cons (pv 0) (pa_cons (pv 1) pa_nil))) (pg_tup rfl (pgs_cons (pg_name (i := 2) sc_law.nd rfl (by first | exact Or.inl rfl | exact Or.inr rfl)) (pgs_cons (pg_name (i := 3) sc_law.nd rfl (by first | exact Or.inl rfl | exact Or.inr rfl)) (pgs_cons (pg_name (i := 4) sc_law.nd rfl (by first | exact Or.inl rfl | exact Or.inr rfl)) (pgs_cons (pg_name (i := 5) sc_law.nd rfl (by first | exact Or.inl rfl | exact Or.inr rfl)) pgs_nil))))))
  (pss_cons (ps_set (i := 6) sc_law.nd rfl (by first | exact Or.inl rfl | exact Or.inr rfl) (pe_make T.mk_Rail (ok_Rail_init T) (hr.mono (by decide)) (by rfl) T.g_Rail (bd_Rail_init T) .nil pass0 (pa_cons (pv 2) (pa_cons (pv 3) (pa_cons (pe_callTy call_gList (by rfl) T.b_list (by decide +kernel) (pa_cons (pv 4) pa_nil)) pa_nil)))))
  (pss_cons (ps_set (i := 7) sc_law.nd rfl (by first | exact Or.inl rfl | exact Or.inr rfl) (pe_tup (pa_cons (pv 2) (pa_cons (pv 3) (pa_cons (pv 4) pa_nil)))))
  (pss_cons (ps_for PassesOwn.never rfl (pi_range2 (by rfl) T.b_range (pa_cons (pe_int) (pa_cons (pe_callB (call_gMax rfl) (by rfl) T.b_max (by decide +kernel) (pa_cons (pe_int) (pa_cons (pe_callB (call_gMin rfl) (by rfl) T.b_min (by decide +kernel) (pa_cons (pe_callB call_gLen (by rfl) T.b_len (by decide +kernel) (pa_cons (pv 0) pa_nil)) (pa_cons (pe_int) pa_nil))) pa_nil))) pa_nil))) (pg_name (i := 8) sc_law.nd rfl (by first | exact Or.inl rfl | exact Or.inr rfl)) (pss_cons (ps_set (i := 9) sc_law.nd rfl (by first | exact Or.inl rfl | exact Or.inr rfl) (pe_call (ok_l_mixed T) (hr.mono (by decide)) (by rfl) T.m_l_mixed T.F_l_mixed.kp (bd_l_mixed T) .nil pass0 (pa_cons (pv 0) (pa_cons (pv 8) pa_nil))))
  (pss_cons (ps_setLc (i := 10) (own := [("_law_crane", 11)]) (g := (gName 11)) (tt := tYes) (by rfl) sc_law.nd rfl rfl (sw_true rfl rfl rfl (by decide +kernel)) (pi_range1 (by rfl) T.b_range (pa_cons (pe_callB call_gLen (by rfl) T.b_len (by decide +kernel) (pa_cons (pv 5) pa_nil)) pa_nil)) (blkOk_by (own := [("_law_crane", 11)]) (N := nm_law) (sc := defScope s_law) (by decide +kernel)) (fun _ _ _ _ _ => (pg_name (i := 11) sc_law.nd rfl (Or.inl rfl))) (fun _ _ _ _ _ => pts_nil) (fun _ _ _ _ _ => (pe_cmpR (op_gEq hr.units) (pe_op op_gMod (pe_op op_gFdv (pv 9) (pe_ix ix_seq (pe_lst (pa_cons (pe_int) (pa_cons (pe_int) (pa_cons (pe_int) (pa_cons (pe_int) (pa_cons (pe_int) (pa_cons (pe_int) pa_nil))))))) (pv 11) (fun _ _ => rfl))) (pe_int)) (pe_int) (nomark _))))
  (pss_cons (ps_set (i := 12) sc_law.nd rfl (by first | exact Or.inl rfl | exact Or.inr rfl) (pe_callTy call_gList (by rfl) T.b_list (by decide +kernel) (pa_cons (pv 10) pa_nil)))
  (pss_cons (ps_set (i := 13) sc_law.nd rfl (by first | exact Or.inl rfl | exact Or.inr rfl) (pe_call (ok_l_lows T) (hr.mono (by decide)) (by rfl) T.m_l_lows T.F_l_lows.kp (bd_l_lows T) .nil pass0 (pa_cons (pv 7) (pa_cons (pv 5) (pa_cons (pv 10) pa_nil)))))
  (pss_cons (ps_set (i := 14) sc_law.nd rfl (by first | exact Or.inl rfl | exact Or.inr rfl) (pe_call (ok_l_highs T) (hr.mono (by decide)) (by rfl) T.m_l_highs T.F_l_highs.kp (bd_l_highs T) .nil pass0 (pa_cons (pv 7) (pa_cons (pv 5) (pa_cons (pv 10) pa_nil)))))
  (pss_cons (ps_for PassesOwn.never rfl (pi_range1 (by rfl) T.b_range (pa_cons (pe_callB call_gLen (by rfl) T.b_len (by decide +kernel) (pa_cons (pv 5) pa_nil)) pa_nil)) (pg_name (i := 11) sc_law.nd rfl (by first | exact Or.inl rfl | exact Or.inr rfl)) (pss_cons (ps_set (i := 15) sc_law.nd rfl (by first | exact Or.inl rfl | exact Or.inr rfl) (pe_tup (pa_cons (pe_ix ix_seq (pv 13) (pv 11) (fun _ _ => rfl)) (pa_cons (pe_ix ix_seq (pv 14) (pv 11) (fun _ _ => rfl)) pa_nil))))
  (pss_cons (ps_for PassesOwn.never rfl (pi_range1 (by rfl) T.b_range (pa_cons (pe_int) pa_nil)) (pg_name (i := 16) sc_law.nd rfl (by first | exact Or.inl rfl | exact Or.inr rfl)) (pss_cons (ps_set (i := 17) sc_law.nd rfl (by first | exact Or.inl rfl | exact Or.inr rfl) (pe_call (ok_span T) (hr.mono (by decide)) (by rfl) T.m_span T.F_span.kp (bd_span T) .nil pass0 (pa_cons (pv 6) (pa_cons (pv 5) (pa_cons (pv 12) (pa_cons (pv 11) pa_nil))))))
  (pss_one (ps_if (PW.pt (pw_or (pt_not (pt_val (pe_callB call_isi (by rfl) T.b_isinstance (by decide +kernel) (pa_cons (pv 17) (pa_cons (pe_bltn (v := .ty "tuple") (by rfl) T.b_tuple (by decide +kernel) rfl) pa_nil))))) (pw_or (pt_cmpR (op_gNe hr.units) (pv 17) (pv 15) (nomark _)) (pw_or1 (pt_val (pe_callB call_isi (by rfl) T.b_isinstance (by decide +kernel) (pa_cons (pe_ix ix_seq (pv 17) (pe_int) (fun _ _ => rfl)) (pa_cons (pe_bltn (v := .ty "bool") (by rfl) T.b_bool (by decide +kernel) rfl) pa_nil)))))))) (pss_one (ps_ret (pe_bl))) pss_nil))))
  (pss_cons (ps_for PassesOwn.never rfl (pi_tup (pv 15)) (pg_name (i := 18) sc_law.nd rfl (by first | exact Or.inl rfl | exact Or.inr rfl)) (pss_one (ps_if (pt_not (pt_val (pe_call (ok_l_is_let T) (hr.mono (by decide)) (by rfl) T.m_l_is_let T.F_l_is_let.kp (bd_l_is_let T) .nil pass0 (pa_cons (pv 7) (pa_cons (pv 5) (pa_cons (pv 10) (pa_cons (pe_call (ok_l_by T) (hr.mono (by decide)) (by rfl) T.m_l_by T.F_l_by.kp (bd_l_by T) .nil pass0 (pa_cons (pv 7) (pa_cons (pv 5) (pa_cons (pv 10) (pa_cons (pv 11) (pa_cons (pv 18) pa_nil)))))) pa_nil))))))) (pss_one (ps_ret (pe_bl))) pss_nil)))
  (pss_one (ps_for PassesOwn.never rfl (pi_tup (pe_tup (pa_cons (pe_op op_gSub (pe_ix ix_seq (pv 15) (pe_int) (fun _ _ => rfl)) (pe_int)) (pa_cons (pe_op op_gAdd (pe_ix ix_seq (pv 15) (pe_int) (fun _ _ => rfl)) (pe_int)) pa_nil)))) (pg_name (i := 18) sc_law.nd rfl (by first | exact Or.inl rfl | exact Or.inr rfl)) (pss_one (ps_if (pt_val (pe_call (ok_l_is_let T) (hr.mono (by decide)) (by rfl) T.m_l_is_let T.F_l_is_let.kp (bd_l_is_let T) .nil pass0 (pa_cons (pv 7) (pa_cons (pv 5) (pa_cons (pv 10) (pa_cons (pe_call (ok_l_by T) (hr.mono (by decide)) (by rfl) T.m_l_by T.F_l_by.kp (bd_l_by T) .nil pass0 (pa_cons (pv 7) (pa_cons (pv 5) (pa_cons (pv 10) (pa_cons (pv 11) (pa_cons (pv 18) pa_nil)))))) pa_nil)))))) (pss_one (ps_ret (pe_bl))) pss_nil))))))))
  (pss_cons (ps_if (pt_cmpR (op_gNe hr.units) (pv 12) (pv 10) (nomark _)) (pss_one (ps_ret (pe_bl))) pss_nil)
  (pss_one (ps_set (i := 5) sc_law.nd rfl (by first | exact Or.inl rfl | exact Or.inr rfl) (pe_ifExp (pt_cmpR (op_gEq hr.units) (pe_op op_gMod (pv 9) (pe_int)) (pe_int) (nomark _)) (pe_call (ok_l_by T) (hr.mono (by decide)) (by rfl) T.m_l_by T.F_l_by.kp (bd_l_by T) .nil pass0 (pa_cons (pv 7) (pa_cons (pv 5) (pa_cons (pv 10) (pa_cons (pe_int) (pa_cons (pe_ix ix_seq (pv 13) (pe_int) (fun _ _ => rfl)) pa_nil)))))) (pv 5))))))))))))
  (pss_one (ps_ret (pe_bl))))))))
end
theorem all_mk {l : PySem.W.OpenLaw} {w : World} {K : PySem.W.Frag} {h : Heap} {mg : Str → Option Value} {fa : Addr} (X : K.In h) (G : h.Ns mainGlobals mg) (hfa : mg "law" = some (.ref fa))
    {f0 f1 f2 f3 f4 f5 f6 f7 f8 f9 f10 f11 f12 f13 f14 c_Rail : Addr}
    {od0 an0 od1 an1 od2 an2 od3 an3 od4 an4 od5 an5 od6 an6 od7 an7 od8 an8 od9 an9 od10 an10 od11 an11 od12 an12 od13 an13 od14 an14 : Option Addr} {sl0 sl1 sl2 sl3 sl4 sl5 sl6 sl7 sl8 sl9 sl10 sl11 sl12 sl13 sl14 : Array (Option Value)} {oc0 kV0 dc0 pm0 cd0 ct0 oc1 kV1 dc1 pm1 cd1 ct1 oc2 kV2 dc2 pm2 cd2 ct2 oc3 kV3 dc3 pm3 cd3 ct3 oc4 kV4 dc4 pm4 cd4 ct4 oc5 kV5 dc5 pm5 cd5 ct5 oc6 kV6 dc6 pm6 cd6 ct6 oc7 kV7 dc7 pm7 cd7 ct7 oc8 kV8 dc8 pm8 cd8 ct8 oc9 kV9 dc9 pm9 cd9 ct9 oc10 kV10 dc10 pm10 cd10 ct10 oc11 kV11 dc11 pm11 cd11 ct11 oc12 kV12 dc12 pm12 cd12 ct12 oc13 kV13 dc13 pm13 cd13 ct13 oc14 kV14 dc14 pm14 cd14 ct14 : Value}
    (ac_Rail : PySem.W.nsIn K mainGlobals "Rail" = some (some (.ref c_Rail))) (pg_Rail : PySem.W.plainGet K c_Rail Str.empty = true) (hd_Rail : PySem.W.hasDictIn K c_Rail = true) (po_Rail : PySem.W.plainOver K c_Rail = true) (sa_Rail : PySem.W.findIn K (.ref c_Rail) "__setattr__" = some (some (.builtin "object.__setattr__"))) (mk_Rail : PySem.W.makesIn K c_Rail = true) (kc_Rail : PySem.W.keepIn K (.ref c_Rail) = true)
    (nf_Rail_end : PySem.W.findIn K (.ref c_Rail) "end" = some none)
    (nf_Rail_room : PySem.W.findIn K (.ref c_Rail) "room" = some none)
    (nf_Rail_cranes : PySem.W.findIn K (.ref c_Rail) "cranes" = some none)
    (a0 : PySem.W.nsIn K mainGlobals "span" = some (some (.ref f0))) (l0 : K.lookup f0 = some ⟨oc0, od0, .func (PySem.W.fnOf "span" "span" (defArgs s_span) (defBody s_span) (defScope s_span) .none kV0 dc0 pm0 an0 cd0 ct0), sl0⟩) (c0 : PySem.W.codeIn K cd0 "span" = true) (k0 : PySem.W.keepIn K (.ref f0) = true)
    (a1 : PySem.W.nsIn K mainGlobals "_lows" = some (some (.ref f1))) (l1 : K.lookup f1 = some ⟨oc1, od1, .func (PySem.W.fnOf "_lows" "_lows" (defArgs s_lows) (defBody s_lows) (defScope s_lows) .none kV1 dc1 pm1 an1 cd1 ct1), sl1⟩) (c1 : PySem.W.codeIn K cd1 "_lows" = true) (k1 : PySem.W.keepIn K (.ref f1) = true)
    (a2 : PySem.W.nsIn K mainGlobals "_highs" = some (some (.ref f2))) (l2 : K.lookup f2 = some ⟨oc2, od2, .func (PySem.W.fnOf "_highs" "_highs" (defArgs s_highs) (defBody s_highs) (defScope s_highs) .none kV2 dc2 pm2 an2 cd2 ct2), sl2⟩) (c2 : PySem.W.codeIn K cd2 "_highs" = true) (k2 : PySem.W.keepIn K (.ref f2) = true)
    (a3 : PySem.W.nsIn K mainGlobals "is_among" = some (some (.ref f3))) (l3 : K.lookup f3 = some ⟨oc3, od3, .func (PySem.W.fnOf "is_among" "is_among" (defArgs s_is_among) (defBody s_is_among) (defScope s_is_among) .none kV3 dc3 pm3 an3 cd3 ct3), sl3⟩) (c3 : PySem.W.codeIn K cd3 "is_among" = true) (k3 : PySem.W.keepIn K (.ref f3) = true)
    (a4 : PySem.W.findIn K (.ref c_Rail) "__init__" = some (some (.ref f4))) (i4 : PySem.W.isFn K (.ref f4) = true) (l4 : K.lookup f4 = some ⟨oc4, od4, .func (PySem.W.fnOf "__init__" "Rail.__init__" (defArgs s_Rail_init) (defBody s_Rail_init) (defScope s_Rail_init) .none kV4 dc4 pm4 an4 cd4 ct4), sl4⟩) (c4 : PySem.W.codeIn K cd4 "Rail.__init__" = true) (k4 : PySem.W.keepIn K (.ref f4) = true)
    (a5 : PySem.W.nsIn K mainGlobals "_is_rail" = some (some (.ref f5))) (l5 : K.lookup f5 = some ⟨oc5, od5, .func (PySem.W.fnOf "_is_rail" "_is_rail" (defArgs s_is_rail) (defBody s_is_rail) (defScope s_is_rail) .none kV5 dc5 pm5 an5 cd5 ct5), sl5⟩) (c5 : PySem.W.codeIn K cd5 "_is_rail" = true) (k5 : PySem.W.keepIn K (.ref f5) = true)
    (a6 : PySem.W.nsIn K mainGlobals "_is_crane" = some (some (.ref f6))) (l6 : K.lookup f6 = some ⟨oc6, od6, .func (PySem.W.fnOf "_is_crane" "_is_crane" (defArgs s_is_crane) (defBody s_is_crane) (defScope s_is_crane) .none kV6 dc6 pm6 an6 cd6 ct6), sl6⟩) (c6 : PySem.W.codeIn K cd6 "_is_crane" = true) (k6 : PySem.W.keepIn K (.ref f6) = true)
    (a7 : PySem.W.nsIn K mainGlobals "_law_cell_at" = some (some (.ref f7))) (l7 : K.lookup f7 = some ⟨oc7, od7, .func (PySem.W.fnOf "_law_cell_at" "_law_cell_at" (defArgs s_l_cell_at) (defBody s_l_cell_at) (defScope s_l_cell_at) .none kV7 dc7 pm7 an7 cd7 ct7), sl7⟩) (c7 : PySem.W.codeIn K cd7 "_law_cell_at" = true) (k7 : PySem.W.keepIn K (.ref f7) = true)
    (a8 : PySem.W.nsIn K mainGlobals "_law_mixed" = some (some (.ref f8))) (l8 : K.lookup f8 = some ⟨oc8, od8, .func (PySem.W.fnOf "_law_mixed" "_law_mixed" (defArgs s_l_mixed) (defBody s_l_mixed) (defScope s_l_mixed) .none kV8 dc8 pm8 an8 cd8 ct8), sl8⟩) (c8 : PySem.W.codeIn K cd8 "_law_mixed" = true) (k8 : PySem.W.keepIn K (.ref f8) = true)
    (a9 : PySem.W.nsIn K mainGlobals "_law_rail" = some (some (.ref f9))) (l9 : K.lookup f9 = some ⟨oc9, od9, .func (PySem.W.fnOf "_law_rail" "_law_rail" (defArgs s_l_rail) (defBody s_l_rail) (defScope s_l_rail) .none kV9 dc9 pm9 an9 cd9 ct9), sl9⟩) (c9 : PySem.W.codeIn K cd9 "_law_rail" = true) (k9 : PySem.W.keepIn K (.ref f9) = true)
    (a10 : PySem.W.nsIn K mainGlobals "_law_lows" = some (some (.ref f10))) (l10 : K.lookup f10 = some ⟨oc10, od10, .func (PySem.W.fnOf "_law_lows" "_law_lows" (defArgs s_l_lows) (defBody s_l_lows) (defScope s_l_lows) .none kV10 dc10 pm10 an10 cd10 ct10), sl10⟩) (c10 : PySem.W.codeIn K cd10 "_law_lows" = true) (k10 : PySem.W.keepIn K (.ref f10) = true)
    (a11 : PySem.W.nsIn K mainGlobals "_law_highs" = some (some (.ref f11))) (l11 : K.lookup f11 = some ⟨oc11, od11, .func (PySem.W.fnOf "_law_highs" "_law_highs" (defArgs s_l_highs) (defBody s_l_highs) (defScope s_l_highs) .none kV11 dc11 pm11 an11 cd11 ct11), sl11⟩) (c11 : PySem.W.codeIn K cd11 "_law_highs" = true) (k11 : PySem.W.keepIn K (.ref f11) = true)
    (a12 : PySem.W.nsIn K mainGlobals "_law_is_let" = some (some (.ref f12))) (l12 : K.lookup f12 = some ⟨oc12, od12, .func (PySem.W.fnOf "_law_is_let" "_law_is_let" (defArgs s_l_is_let) (defBody s_l_is_let) (defScope s_l_is_let) .none kV12 dc12 pm12 an12 cd12 ct12), sl12⟩) (c12 : PySem.W.codeIn K cd12 "_law_is_let" = true) (k12 : PySem.W.keepIn K (.ref f12) = true)
    (a13 : PySem.W.nsIn K mainGlobals "_law_by" = some (some (.ref f13))) (l13 : K.lookup f13 = some ⟨oc13, od13, .func (PySem.W.fnOf "_law_by" "_law_by" (defArgs s_l_by) (defBody s_l_by) (defScope s_l_by) .none kV13 dc13 pm13 an13 cd13 ct13), sl13⟩) (c13 : PySem.W.codeIn K cd13 "_law_by" = true) (k13 : PySem.W.keepIn K (.ref f13) = true)
    (a14 : PySem.W.nsIn K mainGlobals "law" = some (some (.ref f14))) (l14 : K.lookup f14 = some ⟨oc14, od14, .func (PySem.W.fnOf "law" "law" (defArgs s_law) (defBody s_law) (defScope s_law) .none kV14 dc14 pm14 an14 cd14 ct14), sl14⟩) (c14 : PySem.W.codeIn K cd14 "law" = true) (k14 : PySem.W.keepIn K (.ref f14) = true)
    (n_all : PySem.W.nsIn K mainGlobals "all" = some none)
    (n_bool : PySem.W.nsIn K mainGlobals "bool" = some none)
    (n_enumerate : PySem.W.nsIn K mainGlobals "enumerate" = some none)
    (n_int : PySem.W.nsIn K mainGlobals "int" = some none)
    (n_isinstance : PySem.W.nsIn K mainGlobals "isinstance" = some none)
    (n_len : PySem.W.nsIn K mainGlobals "len" = some none)
    (n_list : PySem.W.nsIn K mainGlobals "list" = some none)
    (n_max : PySem.W.nsIn K mainGlobals "max" = some none)
    (n_min : PySem.W.nsIn K mainGlobals "min" = some none)
    (n_range : PySem.W.nsIn K mainGlobals "range" = some none)
    (n_reversed : PySem.W.nsIn K mainGlobals "reversed" = some none)
    (n_tuple : PySem.W.nsIn K mainGlobals "tuple" = some none)
    (n_zip : PySem.W.nsIn K mainGlobals "zip" = some none)
    {tk_GREATEST_END : Tok} (g_GREATEST_END : PySem.W.nsIn K mainGlobals "GREATEST_END" = some (some (.int 1000000000000 tk_GREATEST_END)))
    {tk_GREATEST_HOIST : Tok} (g_GREATEST_HOIST : PySem.W.nsIn K mainGlobals "GREATEST_HOIST" = some (some (.int 1000 tk_GREATEST_HOIST)))
    {tk_GREATEST_ROOM : Tok} (g_GREATEST_ROOM : PySem.W.nsIn K mainGlobals "GREATEST_ROOM" = some (some (.int 1000000 tk_GREATEST_ROOM)))
    {tk_GREATEST_SPEED : Tok} (g_GREATEST_SPEED : PySem.W.nsIn K mainGlobals "GREATEST_SPEED" = some (some (.int 1000000000 tk_GREATEST_SPEED)))
    {tk_MOST_CRANES : Tok} (g_MOST_CRANES : PySem.W.nsIn K mainGlobals "MOST_CRANES" = some (some (.int 6 tk_MOST_CRANES)))
    : ∃ fd : FuncData, (∀ (s : Shared) (v : Value), BindsTo s fd ⟨[v], []⟩ [("_law_script", v)]) ∧ ∀ base : Heap, K.In base → base.Ns mainGlobals mg → FnOk l.prog w K mg base CX0 6 fa fd ["_law_script"] (sp_law K) := by
  have e := hfa.symm.trans (PySem.W.mg_of X G a14)
  cases e
  let T : Tx K mg := ⟨_, _, _, fun_mk (st := s_span) l0 c0 k0, PySem.W.mg_of X G a0, _, _, fun_mk (st := s_lows) l1 c1 k1, PySem.W.mg_of X G a1, _, _, fun_mk (st := s_highs) l2 c2 k2, PySem.W.mg_of X G a2, _, _, fun_mk (st := s_is_among) l3 c3 k3, PySem.W.mg_of X G a3, _, _, fun_mk (st := s_Rail_init) l4 c4 k4, ⟨mk_Rail, a4, i4, kc_Rail⟩, _, _, fun_mk (st := s_is_rail) l5 c5 k5, PySem.W.mg_of X G a5, _, _, fun_mk (st := s_is_crane) l6 c6 k6, PySem.W.mg_of X G a6, _, _, fun_mk (st := s_l_cell_at) l7 c7 k7, PySem.W.mg_of X G a7, _, _, fun_mk (st := s_l_mixed) l8 c8 k8, PySem.W.mg_of X G a8, _, _, fun_mk (st := s_l_rail) l9 c9 k9, PySem.W.mg_of X G a9, _, _, fun_mk (st := s_l_lows) l10 c10 k10, PySem.W.mg_of X G a10, _, _, fun_mk (st := s_l_highs) l11 c11 k11, PySem.W.mg_of X G a11, _, _, fun_mk (st := s_l_is_let) l12 c12 k12, PySem.W.mg_of X G a12, _, _, fun_mk (st := s_l_by) l13 c13 k13, PySem.W.mg_of X G a13, _, _, fun_mk (st := s_law) l14 c14 k14, PySem.W.mg_of X G a14, PySem.W.mg_of X G ac_Rail, ⟨⟨pg_Rail, hd_Rail, po_Rail, sa_Rail⟩, nf_Rail_end, nf_Rail_room, nf_Rail_cranes⟩, PySem.W.mg_none_of X G n_all, PySem.W.mg_none_of X G n_bool, PySem.W.mg_none_of X G n_enumerate, PySem.W.mg_none_of X G n_int, PySem.W.mg_none_of X G n_isinstance, PySem.W.mg_none_of X G n_len, PySem.W.mg_none_of X G n_list, PySem.W.mg_none_of X G n_max, PySem.W.mg_none_of X G n_min, PySem.W.mg_none_of X G n_range, PySem.W.mg_none_of X G n_reversed, PySem.W.mg_none_of X G n_tuple, PySem.W.mg_none_of X G n_zip, _, PySem.W.mg_of X G g_GREATEST_END, _, PySem.W.mg_of X G g_GREATEST_HOIST, _, PySem.W.mg_of X G g_GREATEST_ROOM, _, PySem.W.mg_of X G g_GREATEST_SPEED, _, PySem.W.mg_of X G g_MOST_CRANES⟩
  exact ⟨_, fun s v => .of_eq rfl, fun base _ _ => ok_law T⟩
theorem walk {l : PySem.W.OpenLaw} {q : Program} {loose : List Str} {XP : (Str → Option Value) → Heap → Prop} {YP : World → Heap → Prop} {d : DefRec} {K : Params → PySem.W.Frag} (hn : l.most = some 63) (hdf : d.params.defaults = [])
    (hY : ∀ (w : World) (h : Heap), YP w h → (K w.params).In h)
    (F : ∀ (w : World) (mg : Str → Option Value) (fa : Addr) (h : Heap), (K w.params).In h → h.Ns mainGlobals mg → mg d.name = some (.ref fa) →
      ∃ fd : FuncData, (∀ (s : Shared) (u : Value), BindsTo s fd ⟨[u], []⟩ [("_law_script", u)]) ∧ ∀ base : Heap, (K w.params).In base → base.Ns mainGlobals mg → FnOk l.prog w (K w.params) mg base CX0 6 fa fd ["_law_script"] (sp_law (K w.params))) :
    PySem.W.WalkO q loose XP YP l.row.toRowW d [] (fun f vs => PySem.call f vs) :=
  L2.walk_of (n := 63) (k := 6) (x := "_law_script") (CX := fun _ => CX0) (sp := fun w => sp_law (K w.params)) hn (by decide) hdf ⟨rfl, by decide, by decide⟩ hY F (fun _ H a ns hl _ hS => law_end hl hS) fun _ _ _ _ _ z => z

end L04
open PySem PySem.W PyProof.Rows
set_option maxRecDepth 100000 in
set_option maxHeartbeats 0 in
theorem PySem.Challenge.cw_craneyard_k04_spans_holds : PySem.Challenge.rw_craneyard_k04_spans.Holds := by
  w_on; o_law; k_head; (case hw => w_witness2)
  k_fill
  refine L04.walk (l := PySem.Challenge.rw_craneyard_k04_spans) rfl rfl (fun w h Y => PySem.W.kIn_of Y) ?F
  case F =>
    intro w mg fa h KX G hmg
    refine' L04.all_mk KX G hmg ?ac_Rail ?pg_Rail ?hd_Rail ?po_Rail ?sa_Rail ?mk_Rail ?kc_Rail ?nf_Rail_end ?nf_Rail_room ?nf_Rail_cranes ?a0 ?l0 ?c0 ?k0 ?a1 ?l1 ?c1 ?k1 ?a2 ?l2 ?c2 ?k2 ?a3 ?l3 ?c3 ?k3 ?a4 ?i4 ?l4 ?c4 ?k4 ?a5 ?l5 ?c5 ?k5 ?a6 ?l6 ?c6 ?k6 ?a7 ?l7 ?c7 ?k7 ?a8 ?l8 ?c8 ?k8 ?a9 ?l9 ?c9 ?k9 ?a10 ?l10 ?c10 ?k10 ?a11 ?l11 ?c11 ?k11 ?a12 ?l12 ?c12 ?k12 ?a13 ?l13 ?c13 ?k13 ?a14 ?l14 ?c14 ?k14 ?n_all ?n_bool ?n_enumerate ?n_int ?n_isinstance ?n_len ?n_list ?n_max ?n_min ?n_range ?n_reversed ?n_tuple ?n_zip ?g_GREATEST_END ?g_GREATEST_HOIST ?g_GREATEST_ROOM ?g_GREATEST_SPEED ?g_MOST_CRANES
    (case ac_Rail => k_is)
    (case pg_Rail => k_is)
    (case hd_Rail => k_is)
    (case po_Rail => k_is)
    (case sa_Rail => k_is)
    (case mk_Rail => k_is)
    (case kc_Rail => k_is)
    (case nf_Rail_end => k_is)
    (case nf_Rail_room => k_is)
    (case nf_Rail_cranes => k_is)
    (case a0 => k_is)
    (case l0 => k_is)
    (case c0 => k_is)
    (case k0 => k_is)
    (case a1 => k_is)
    (case l1 => k_is)
    (case c1 => k_is)
    (case k1 => k_is)
    (case a2 => k_is)
    (case l2 => k_is)
    (case c2 => k_is)
    (case k2 => k_is)
    (case a3 => k_is)
    (case l3 => k_is)
    (case c3 => k_is)
    (case k3 => k_is)
    (case a4 => k_is)
    (case i4 => k_is)
    (case l4 => k_is)
    (case c4 => k_is)
    (case k4 => k_is)
    (case a5 => k_is)
    (case l5 => k_is)
    (case c5 => k_is)
    (case k5 => k_is)
    (case a6 => k_is)
    (case l6 => k_is)
    (case c6 => k_is)
    (case k6 => k_is)
    (case a7 => k_is)
    (case l7 => k_is)
    (case c7 => k_is)
    (case k7 => k_is)
    (case a8 => k_is)
    (case l8 => k_is)
    (case c8 => k_is)
    (case k8 => k_is)
    (case a9 => k_is)
    (case l9 => k_is)
    (case c9 => k_is)
    (case k9 => k_is)
    (case a10 => k_is)
    (case l10 => k_is)
    (case c10 => k_is)
    (case k10 => k_is)
    (case a11 => k_is)
    (case l11 => k_is)
    (case c11 => k_is)
    (case k11 => k_is)
    (case a12 => k_is)
    (case l12 => k_is)
    (case c12 => k_is)
    (case k12 => k_is)
    (case a13 => k_is)
    (case l13 => k_is)
    (case c13 => k_is)
    (case k13 => k_is)
    (case a14 => k_is)
    (case l14 => k_is)
    (case c14 => k_is)
    (case k14 => k_is)
    (case n_all => k_is)
    (case n_bool => k_is)
    (case n_enumerate => k_is)
    (case n_int => k_is)
    (case n_isinstance => k_is)
    (case n_len => k_is)
    (case n_list => k_is)
    (case n_max => k_is)
    (case n_min => k_is)
    (case n_range => k_is)
    (case n_reversed => k_is)
    (case n_tuple => k_is)
    (case n_zip => k_is)
    (case g_GREATEST_END => k_is)
    (case g_GREATEST_HOIST => k_is)
    (case g_GREATEST_ROOM => k_is)
    (case g_GREATEST_SPEED => k_is)
    (case g_MOST_CRANES => k_is)

