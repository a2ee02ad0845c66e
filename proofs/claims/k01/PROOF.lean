import PyProof.Rows.All
import Wide.All
import OpenK.AllK
import Wide.FinOn
import HandS.ForMost
import HandS.Evl
import HandS.Walk
import HandS.IsInst
import HandS.Wide
import HandS.Style
import HandS.RevRange
import HandS.Replace
import HandS.RaiseMore
import HandS.StrMore
import PySem.Challenge.RW_craneyard_k01_words
set_option Elab.async false
set_option linter.all false
set_option maxRecDepth 100000
set_option maxHeartbeats 2000000
namespace Cy
open PySem L2 Evl

/-! data as trees; how a value bears them -/
inductive D where
  | non
  | bl (b : Bool)
  | int (i : Int)
  | str (s : Str)
  | lst (xs : List D)
  | tup (xs : List D)
  | dic (es : List (D × D))
  | obj (C : Addr) (fs : List (Str × D))
  | scr (xs : List Int)

mutual
inductive Rp (K : PySem.W.Frag) (F : Hp) : V → D → Prop
  | non : Rp K F .non .non
  | bl (b : Bool) : Rp K F (.bl b) (.bl b)
  | int (i : Int) : Rp K F (.int i) (.int i)
  | str (x : Str) : Rp K F (.str x) (.str x)
  | lst {a : Addr} {xs : List V} {ds : List D} : F a = some (.lst xs) → RpA K F xs ds → Rp K F (.ref a) (.lst ds)
  | tup {a : Addr} {xs : List V} {ds : List D} : F a = some (.tup xs) → RpA K F xs ds → Rp K F (.ref a) (.tup ds)
  | dic {a : Addr} {kvs : List (Key × V)} {es : List (D × D)} : F a = some (.dK kvs) → RpA K F (kvs.map fun p => kV p.1) (es.map fun p => p.1) → RpA K F (kvs.map fun p => p.2) (es.map fun p => p.2) → Rp K F (.ref a) (.dic es)
  | obj {a C dx : Addr} {gs : List (Str × V)} {fs : List (Str × D)} : F a = some (.ins C dx gs) → gs.map (fun p => p.1) = fs.map (fun p => p.1) → RpA K F (gs.map fun p => p.2) (fs.map fun p => p.2) → Rp K F (.ref a) (.obj C fs)
  | scr {a : Addr} {ns : List Int} : SqL K F a (ns.map V.int) → Rp K F (.ref a) (.scr ns)
inductive RpA (K : PySem.W.Frag) (F : Hp) : List V → List D → Prop
  | nil : RpA K F [] []
  | cons {v : V} {vs : List V} {d : D} {ds : List D} : Rp K F v d → RpA K F vs ds → RpA K F (v :: vs) (d :: ds)
end

section
variable {K : PySem.W.Frag} {F F' H H' : Hp}
mutual
theorem Rp.mono (e : Ex F F') : ∀ {v : V} {d : D}, Rp K F v d → Rp K F' v d
  | _, _, .non => .non
  | _, _, .bl b => .bl b
  | _, _, .int i => .int i
  | _, _, .str x => .str x
  | _, _, .lst h r => .lst (e _ _ h) (RpA.mono e r)
  | _, _, .tup h r => .tup (e _ _ h) (RpA.mono e r)
  | _, _, .dic h r1 r2 => .dic (e _ _ h) (RpA.mono e r1) (RpA.mono e r2)
  | _, _, .obj h n r => .obj (e _ _ h) n (RpA.mono e r)
  | _, _, .scr h => .scr (ex_l e h)
theorem RpA.mono (e : Ex F F') : ∀ {vs : List V} {ds : List D}, RpA K F vs ds → RpA K F' vs ds
  | _, _, .nil => .nil
  | _, _, .cons r t => .cons (Rp.mono e r) (RpA.mono e t)
end
theorem RpA.length : ∀ {vs : List V} {ds : List D}, RpA K F vs ds → vs.length = ds.length
  | _, _, .nil => rfl
  | _, _, .cons _ t => by rw [List.length_cons, List.length_cons, RpA.length t]
theorem RpA.get : ∀ {vs : List V} {ds : List D} {i : Nat} {d : D}, RpA K F vs ds → ds[i]? = some d → ∃ v, vs[i]? = some v ∧ Rp K F v d
  | _, _, i, d, .nil, h => by simp at h
  | _, _, 0, d, .cons r _, h => by
    simp at h
    subst h
    exact ⟨_, rfl, r⟩
  | _, _, i + 1, d, .cons _ t, h => by
    obtain ⟨v, h1, h2⟩ := RpA.get (i := i) (d := d) t (by simpa using h)
    exact ⟨v, by simpa using h1, h2⟩
theorem RpA.app : ∀ {vs : List V} {ds : List D} {ws : List V} {es : List D}, RpA K F vs ds → RpA K F ws es → RpA K F (vs ++ ws) (ds ++ es)
  | _, _, _, _, .nil, s => s
  | _, _, _, _, .cons r t, s => .cons r (RpA.app t s)
theorem RpA.take : ∀ {vs : List V} {ds : List D} (n : Nat), RpA K F vs ds → RpA K F (vs.take n) (ds.take n)
  | _, _, 0, _ => .nil
  | _, _, _ + 1, .nil => .nil
  | _, _, n + 1, .cons r t => .cons r (RpA.take n t)
theorem RpA.drop : ∀ {vs : List V} {ds : List D} (n : Nat), RpA K F vs ds → RpA K F (vs.drop n) (ds.drop n)
  | _, _, 0, r => r
  | _, _, _ + 1, .nil => .nil
  | _, _, n + 1, .cons _ t => RpA.drop n t
theorem RpA.set {v : V} {d : D} (r : Rp K F v d) : ∀ {vs : List V} {ds : List D} (i : Nat), RpA K F vs ds → RpA K F (vs.set i v) (ds.set i d)
  | _, _, _, .nil => .nil
  | _, _, 0, .cons _ t => .cons r t
  | _, _, i + 1, .cons q t => .cons q (RpA.set r i t)
theorem RpA.erase : ∀ {vs : List V} {ds : List D} (i : Nat), RpA K F vs ds → RpA K F (vs.eraseIdx i) (ds.eraseIdx i)
  | _, _, _, .nil => .nil
  | _, _, 0, .cons _ t => t
  | _, _, i + 1, .cons q t => .cons q (RpA.erase i t)
theorem RpA.rev {vs : List V} {ds : List D} (h : RpA K F vs ds) : RpA K F vs.reverse ds.reverse := by
  induction vs generalizing ds with
  | nil =>
    cases h
    exact .nil
  | cons v vs ih =>
    cases h with
    | cons r t =>
      rw [List.reverse_cons, List.reverse_cons]
      exact RpA.app (ih t) (.cons r .nil)
theorem RpA.ints : ∀ {ns : List Int} {vs : List V}, RpA K F vs (ns.map D.int) → vs = ns.map V.int
  | [], _, h => by
    cases h
    rfl
  | n :: ns, _, h => by
    cases h with
    | cons r t =>
      cases r
      rw [RpA.ints t]
      rfl
theorem RpA.ofInts : ∀ ns : List Int, RpA K F (ns.map V.int) (ns.map D.int)
  | [] => .nil
  | n :: ns => .cons (.int n) (RpA.ofInts ns)
theorem RpA.bls : ∀ {ns : List Bool} {vs : List V}, RpA K F vs (ns.map D.bl) → vs = ns.map V.bl
  | [], _, h => by
    cases h
    rfl
  | n :: ns, _, h => by
    cases h with
    | cons r t =>
      cases r
      rw [RpA.bls t]
      rfl
theorem RpA.strs : ∀ {ns : List Str} {vs : List V}, RpA K F vs (ns.map D.str) → vs = ns.map V.str
  | [], _, h => by
    cases h
    rfl
  | n :: ns, _, h => by
    cases h with
    | cons r t =>
      cases r
      rw [RpA.strs t]
      rfl
end

/-! what stands in the slots -/
inductive Ow where
  | lst (l : List D)
  | ins (C : Addr) (fs : List (Str × D))
inductive Sl where
  | no
  | dat (d : D)
  | own (w : Ow)
inductive BearO (K : PySem.W.Frag) (F : Hp) : HO → Ow → Prop
  | lst {xs : List V} {l : List D} : RpA K F xs l → BearO K F (.lst xs) (.lst l)
  | ins {C dx : Addr} {gs : List (Str × V)} {fs : List (Str × D)} : gs.map (fun p => p.1) = fs.map (fun p => p.1) → RpA K F (gs.map fun p => p.2) (fs.map fun p => p.2) → BearO K F (.ins C dx gs) (.ins C fs)
theorem BearO.mono {K : PySem.W.Frag} {F F' : Hp} (e : Ex F F') {o : HO} {w : Ow} (h : BearO K F o w) : BearO K F' o w := by
  cases h with
  | lst r => exact .lst (r.mono e)
  | ins n r => exact .ins n (r.mono e)
def datOf : Ow → D
  | .lst l => .lst l
  | .ins C fs => .obj C fs
theorem BearO.rp {K : PySem.W.Frag} {F : Hp} {p : Addr} {o : HO} {w : Ow} (h : BearO K F o w) (hp : F p = some o) : Rp K F (.ref p) (datOf w) := by
  cases h with
  | lst r => exact .lst hp r
  | ins n r => exact .obj hp n r

structure En (K : PySem.W.Frag) (H0 F0 F H : Hp) (σ : L2.St) (G : List Sl) : Prop where
  dat : ∀ (i : Nat) (d : D), G[i]? = some (.dat d) → ∃ v, σ[i]? = some (some v) ∧ Rp K F v d
  own : ∀ (i : Nat) (w : Ow), G[i]? = some (.own w) → ∃ p o, σ[i]? = some (some (.ref p)) ∧ F p = none ∧ H0 p = none ∧ H p = some o ∧ BearO K F o w
  dis : ∀ (i j : Nat) (li lj : Ow) (p : Addr), i ≠ j → G[i]? = some (.own li) → G[j]? = some (.own lj) → σ[i]? = some (some (.ref p)) → σ[j]? ≠ some (some (.ref p))
  e0 : Ex H0 H
  ef : Ex F H
  e1 : Ex F0 F
  nf : ∀ a o, F a = some o → F0 a = some o ∨ H0 a = none
  len : σ.length = G.length

/-- the new part of F' was free in H -/
def Nw (F F' H : Hp) : Prop := ∀ a o, F' a = some o → F a = some o ∨ H a = none
theorem Nw.refl (F H : Hp) : Nw F F H := fun _ _ h => .inl h

theorem ex_none {H H' : Hp} (e : Ex H H') {a : Addr} (h : H' a = none) : H a = none := fresh_back e h

section
variable {K : PySem.W.Frag} {H0 F0 F F' H H' : Hp} {σ : L2.St} {G : List Sl}
/-- a bigger footprint, a bigger heap -/
theorem En.grow (E : En K H0 F0 F H σ G) (e1 : Ex F F') (e2 : Ex H H') (e3 : Ex F' H') (n : Nw F F' H) : En K H0 F0 F' H' σ G where
  dat := fun i d h => by
    obtain ⟨v, a, b⟩ := E.dat i d h
    exact ⟨v, a, b.mono e1⟩
  own := fun i l h => by
    obtain ⟨p, xs, a, b, c, d, r⟩ := E.own i l h
    refine ⟨p, xs, a, ?_, c, e2 _ _ d, r.mono e1⟩
    cases q : F' p with
    | none => rfl
    | some o =>
      rcases n p o q with z | z
      · rw [b] at z
        cases z
      · rw [d] at z
        cases z
  dis := E.dis
  e0 := E.e0.trans e2
  ef := e3
  e1 := E.e1.trans e1
  nf := fun a o h => by
    rcases n a o h with z | z
    · exact E.nf a o z
    · exact .inr (ex_none E.e0 z)
  len := E.len
/-- a new object joins both -/
theorem nw_upd {p : Addr} {o : HO} (h : H p = none) (n : Nw F F' H) : Nw F (upd F' p o) H := fun a u q => by
  by_cases e : a = p
  · subst e
    exact .inr h
  · rw [upd_ne e] at q
    exact n a u q
theorem ex_upd_both {p : Addr} {o : HO} (e : Ex F H) : Ex (upd F p o) (upd H p o) := fun a u q => by
  by_cases z : a = p
  · subst z
    rw [upd_same] at q ⊢
    exact q
  · rw [upd_ne z] at q ⊢
    exact e a u q
theorem En.setD (E : En K H0 F0 F H σ G) {v : V} {d : D} (r : Rp K F v d) (i : Nat) : En K H0 F0 F H (σ.set i (some v)) (G.set i (.dat d)) where
  dat := fun j e h => by
    by_cases q : i = j
    · subst q
      by_cases hl : i < G.length
      · rw [List.getElem?_set_self hl] at h
        cases h
        exact ⟨v, List.getElem?_set_self (by rw [E.len]; exact hl), r⟩
      · rw [List.getElem?_eq_none (by rw [List.length_set]; omega)] at h
        cases h
    · rw [List.getElem?_set_ne q] at h ⊢
      exact E.dat j e h
  own := fun j l h => by
    by_cases q : i = j
    · subst q
      by_cases hl : i < G.length
      · rw [List.getElem?_set_self hl] at h
        cases h
      · rw [List.getElem?_eq_none (by rw [List.length_set]; omega)] at h
        cases h
    · rw [List.getElem?_set_ne q] at h ⊢
      exact E.own j l h
  dis := fun a b la lb p hab h1 h2 h3 => by
    have na : i ≠ a := fun q => by
      subst q
      by_cases hl : i < G.length
      · rw [List.getElem?_set_self hl] at h1
        cases h1
      · rw [List.getElem?_eq_none (by rw [List.length_set]; omega)] at h1
        cases h1
    have nb : i ≠ b := fun q => by
      subst q
      by_cases hl : i < G.length
      · rw [List.getElem?_set_self hl] at h2
        cases h2
      · rw [List.getElem?_eq_none (by rw [List.length_set]; omega)] at h2
        cases h2
    rw [List.getElem?_set_ne na] at h1 h3
    rw [List.getElem?_set_ne nb] at h2 ⊢
    exact E.dis a b la lb p hab h1 h2 h3
  e0 := E.e0
  ef := E.ef
  e1 := E.e1
  nf := E.nf
  len := by rw [List.length_set, List.length_set, E.len]
theorem En.setO (E : En K H0 F0 F H σ G) {p : Addr} {o : HO} {l : Ow} (hF : F p = none) (h0 : H0 p = none) (hH : H p = some o) (r : BearO K F o l) (i : Nat)
    (hn : ∀ (j : Nat) (lj : Ow), G[j]? = some (.own lj) → i ≠ j → σ[j]? ≠ some (some (.ref p))) : En K H0 F0 F H (σ.set i (some (.ref p))) (G.set i (.own l)) where
  dat := fun j e h => by
    by_cases q : i = j
    · subst q
      by_cases hl : i < G.length
      · rw [List.getElem?_set_self hl] at h
        cases h
      · rw [List.getElem?_eq_none (by rw [List.length_set]; omega)] at h
        cases h
    · rw [List.getElem?_set_ne q] at h ⊢
      exact E.dat j e h
  own := fun j l' h => by
    by_cases q : i = j
    · subst q
      by_cases hl : i < G.length
      · rw [List.getElem?_set_self hl] at h
        cases h
        exact ⟨p, o, List.getElem?_set_self (by rw [E.len]; exact hl), hF, h0, hH, r⟩
      · rw [List.getElem?_eq_none (by rw [List.length_set]; omega)] at h
        cases h
    · rw [List.getElem?_set_ne q] at h ⊢
      exact E.own j l' h
  dis := fun a b la lb p' hab h1 h2 h3 => by
    by_cases qa : i = a
    · subst qa
      rw [List.getElem?_set_ne hab] at h2 ⊢
      have hl : i < σ.length := by
        have := (List.getElem?_eq_some_iff.mp h3).1
        rw [List.length_set] at this
        exact this
      rw [List.getElem?_set_self hl] at h3
      cases h3
      exact hn b lb h2 hab
    · rw [List.getElem?_set_ne qa] at h1 h3
      by_cases qb : i = b
      · subst qb
        intro z
        have hl : i < σ.length := by
          have := (List.getElem?_eq_some_iff.mp z).1
          rw [List.length_set] at this
          exact this
        rw [List.getElem?_set_self hl] at z
        cases z
        exact hn a la h1 qa h3
      · rw [List.getElem?_set_ne qb] at h2 ⊢
        exact E.dis a b la lb p' hab h1 h2 h3
  e0 := E.e0
  ef := E.ef
  e1 := E.e1
  nf := E.nf
  len := by rw [List.length_set, List.length_set, E.len]
/-- the owned list of slot i becomes xs' -/
theorem En.mut (E : En K H0 F0 F H σ G) {i : Nat} {l : Ow} (h : G[i]? = some (.own l)) {p : Addr} (hp : σ[i]? = some (some (.ref p))) {o' : HO} {l' : Ow} (r : BearO K F o' l') :
    En K H0 F0 F (upd H p o') σ (G.set i (.own l')) := by
  obtain ⟨p', xs, a, b, c, d, _⟩ := E.own i l h
  have ep : p' = p := by
    rw [hp] at a
    cases a
    rfl
  subst ep
  have hl : i < G.length := (List.getElem?_eq_some_iff.mp h).1
  refine ⟨fun j e q => ?_, fun j m q => ?_, fun x y lx ly p'' hxy h1 h2 h3 => ?_, fun z o q => ?_, fun z o q => ?_, E.e1, E.nf, by rw [List.length_set, E.len]⟩
  · by_cases hij : i = j
    · subst hij
      rw [List.getElem?_set_self hl] at q
      cases q
    · rw [List.getElem?_set_ne hij] at q
      exact E.dat j e q
  · by_cases hij : i = j
    · subst hij
      rw [List.getElem?_set_self hl] at q
      cases q
      exact ⟨p', o', hp, b, c, upd_same, r⟩
    · rw [List.getElem?_set_ne hij] at q
      obtain ⟨p2, xs2, a2, b2, c2, d2, r2⟩ := E.own j m q
      have hne : p2 ≠ p' := fun z => by
        subst z
        exact E.dis i j l m p2 hij h q hp a2
      exact ⟨p2, xs2, a2, b2, c2, by rw [upd_ne hne]; exact d2, r2⟩
  · have w : ∀ (x : Nat) (lx : Ow), (G.set i (.own l'))[x]? = some (.own lx) → ∃ m, G[x]? = some (.own m) := fun x lx q => by
      by_cases hix : i = x
      · subst hix
        exact ⟨l, h⟩
      · rw [List.getElem?_set_ne hix] at q
        exact ⟨lx, q⟩
    obtain ⟨m1, q1⟩ := w x lx h1
    obtain ⟨m2, q2⟩ := w y ly h2
    exact E.dis x y m1 m2 p'' hxy q1 q2 h3
  · have hne : z ≠ p' := fun y => by
      subst y
      rw [c] at q
      cases q
    rw [upd_ne hne]
    exact E.e0 z o q
  · have hne : z ≠ p' := fun y => by
      subst y
      rw [b] at q
      cases q
    rw [upd_ne hne]
    exact E.ef z o q
/-- an owned list is shared from here on -/
theorem En.freeze (E : En K H0 F0 F H σ G) {i : Nat} {l : Ow} (h : G[i]? = some (.own l)) : ∃ F', Ex F F' ∧ En K H0 F0 F' H σ (G.set i (.dat (datOf l))) := by
  obtain ⟨p, xs, a, b, c, d, r⟩ := E.own i l h
  have hl : i < G.length := (List.getElem?_eq_some_iff.mp h).1
  have ef : Ex F (upd F p xs) := Ex.new b
  refine ⟨upd F p xs, ef, fun j e q => ?_, fun j m q => ?_, fun x y lx ly p'' hxy h1 h2 h3 => ?_, E.e0, fun z o q => ?_, E.e1.trans ef, fun z o q => ?_, by rw [List.length_set, E.len]⟩
  · by_cases hij : i = j
    · subst hij
      rw [List.getElem?_set_self hl] at q
      cases q
      exact ⟨_, a, (r.mono ef).rp upd_same⟩
    · rw [List.getElem?_set_ne hij] at q
      obtain ⟨v, q1, q2⟩ := E.dat j e q
      exact ⟨v, q1, q2.mono ef⟩
  · by_cases hij : i = j
    · subst hij
      rw [List.getElem?_set_self hl] at q
      cases q
    · rw [List.getElem?_set_ne hij] at q
      obtain ⟨p2, xs2, a2, b2, c2, d2, r2⟩ := E.own j m q
      have hne : p2 ≠ p := fun z => by
        subst z
        exact E.dis i j l m p2 hij h q a a2
      exact ⟨p2, xs2, a2, by rw [upd_ne hne]; exact b2, c2, d2, r2.mono ef⟩
  · have nx : i ≠ x := fun z => by
      subst z
      rw [List.getElem?_set_self hl] at h1
      cases h1
    have ny : i ≠ y := fun z => by
      subst z
      rw [List.getElem?_set_self hl] at h2
      cases h2
    rw [List.getElem?_set_ne nx] at h1
    rw [List.getElem?_set_ne ny] at h2
    exact E.dis x y lx ly p'' hxy h1 h2 h3
  · by_cases hz : z = p
    · subst hz
      rw [upd_same] at q
      cases q
      exact d
    · rw [upd_ne hz] at q
      exact E.ef z o q
  · by_cases hz : z = p
    · subst hz
      exact .inr c
    · rw [upd_ne hz] at q
      exact E.nf z o q
end
end Cy

set_option Elab.async false
set_option linter.all false
set_option maxRecDepth 100000
set_option maxHeartbeats 2000000
namespace Cy
open PySem L2 Evl

/-! expressions over the data in the slots -/
structure EvD (K : PySem.W.Frag) (te : TE) (G : List Sl) (d : D) : Prop where
  run : ∀ {H0 F0 F H : Hp} {σ : L2.St}, En K H0 F0 F H σ G → ∀ Q : VK, (∀ v F' H', En K H0 F0 F' H' σ G → Ex F F' → Ex H H' → Nw F F' H → Rp K F' v d → Q v H') → te σ H Q
instance {K : PySem.W.Frag} {te : TE} {G : List Sl} {d : D} : CoeFun (EvD K te G d) fun _ => ∀ {H0 F0 F H : Hp} {σ : L2.St}, En K H0 F0 F H σ G → ∀ Q : VK, (∀ v F' H', En K H0 F0 F' H' σ G → Ex F F' → Ex H H' → Nw F F' H → Rp K F' v d → Q v H') → te σ H Q := ⟨fun h => h.run⟩
/-- a new list of its own -/
structure EvO (K : PySem.W.Frag) (te : TE) (G : List Sl) (l : List D) : Prop where
  run : ∀ {H0 F0 F H : Hp} {σ : L2.St}, En K H0 F0 F H σ G → ∀ Q : VK, (∀ p xs F' H', En K H0 F0 F' H' σ G → Ex F F' → Ex H H' → Nw F F' H → H p = none → F' p = none → H' p = some (.lst xs) → RpA K F' xs l → Q (.ref p) H') → te σ H Q
instance {K : PySem.W.Frag} {te : TE} {G : List Sl} {l : List D} : CoeFun (EvO K te G l) fun _ => ∀ {H0 F0 F H : Hp} {σ : L2.St}, En K H0 F0 F H σ G → ∀ Q : VK, (∀ p xs F' H', En K H0 F0 F' H' σ G → Ex F F' → Ex H H' → Nw F F' H → H p = none → F' p = none → H' p = some (.lst xs) → RpA K F' xs l → Q (.ref p) H') → te σ H Q := ⟨fun h => h.run⟩
structure EvTt (K : PySem.W.Frag) (tt : TT) (G : List Sl) (b : Bool) : Prop where
  run : ∀ {H0 F0 F H : Hp} {σ : L2.St}, En K H0 F0 F H σ G → ∀ Q : Bool → Hp → Prop, (∀ F' H', En K H0 F0 F' H' σ G → Ex F F' → Ex H H' → Nw F F' H → Q b H') → tt σ H Q
instance {K : PySem.W.Frag} {tt : TT} {G : List Sl} {b : Bool} : CoeFun (EvTt K tt G b) fun _ => ∀ {H0 F0 F H : Hp} {σ : L2.St}, En K H0 F0 F H σ G → ∀ Q : Bool → Hp → Prop, (∀ F' H', En K H0 F0 F' H' σ G → Ex F F' → Ex H H' → Nw F F' H → Q b H') → tt σ H Q := ⟨fun h => h.run⟩
structure EvS (K : PySem.W.Frag) (ta : TA) (G : List Sl) (ds : List D) : Prop where
  run : ∀ {H0 F0 F H : Hp} {σ : L2.St}, En K H0 F0 F H σ G → ∀ Q : List V → Hp → Prop, (∀ vs F' H', En K H0 F0 F' H' σ G → Ex F F' → Ex H H' → Nw F F' H → RpA K F' vs ds → Q vs H') → ta σ H Q
instance {K : PySem.W.Frag} {ta : TA} {G : List Sl} {ds : List D} : CoeFun (EvS K ta G ds) fun _ => ∀ {H0 F0 F H : Hp} {σ : L2.St}, En K H0 F0 F H σ G → ∀ Q : List V → Hp → Prop, (∀ vs F' H', En K H0 F0 F' H' σ G → Ex F F' → Ex H H' → Nw F F' H → RpA K F' vs ds → Q vs H') → ta σ H Q := ⟨fun h => h.run⟩
structure EvP (K : PySem.W.Frag) (to : TO) (G : List Sl) (o : Option Int) : Prop where
  run : ∀ {H0 F0 F H : Hp} {σ : L2.St}, En K H0 F0 F H σ G → ∀ Q : Option Int → Hp → Prop, (∀ F' H', En K H0 F0 F' H' σ G → Ex F F' → Ex H H' → Nw F F' H → Q o H') → to σ H Q
instance {K : PySem.W.Frag} {to : TO} {G : List Sl} {o : Option Int} : CoeFun (EvP K to G o) fun _ => ∀ {H0 F0 F H : Hp} {σ : L2.St}, En K H0 F0 F H σ G → ∀ Q : Option Int → Hp → Prop, (∀ F' H', En K H0 F0 F' H' σ G → Ex F F' → Ex H H' → Nw F F' H → Q o H') → to σ H Q := ⟨fun h => h.run⟩
/-- operations on values -/
structure Op2 (K : PySem.W.Frag) (r : R2) (a b c : D) : Prop where
  run : ∀ {F H : Hp} {x y : V}, Ex F H → Rp K F x a → Rp K F y b → ∀ Q : VK, (∀ v F' H', Ex F F' → Ex F' H' → Ex H H' → Nw F F' H → Rp K F' v c → Q v H') → r x y H Q
instance {K : PySem.W.Frag} {r : R2} {a b c : D} : CoeFun (Op2 K r a b c) fun _ => ∀ {F H : Hp} {x y : V}, Ex F H → Rp K F x a → Rp K F y b → ∀ Q : VK, (∀ v F' H', Ex F F' → Ex F' H' → Ex H H' → Nw F F' H → Rp K F' v c → Q v H') → r x y H Q := ⟨fun h => h.run⟩
structure Op2O (K : PySem.W.Frag) (r : R2) (a b : D) (l : List D) : Prop where
  run : ∀ {F H : Hp} {x y : V}, Ex F H → Rp K F x a → Rp K F y b → ∀ Q : VK, (∀ p xs H', Ex H H' → H p = none → H' p = some (.lst xs) → RpA K F xs l → Q (.ref p) H') → r x y H Q
instance {K : PySem.W.Frag} {r : R2} {a b : D} {l : List D} : CoeFun (Op2O K r a b l) fun _ => ∀ {F H : Hp} {x y : V}, Ex F H → Rp K F x a → Rp K F y b → ∀ Q : VK, (∀ p xs H', Ex H H' → H p = none → H' p = some (.lst xs) → RpA K F xs l → Q (.ref p) H') → r x y H Q := ⟨fun h => h.run⟩
structure Op1 (K : PySem.W.Frag) (r : V → Hp → VK → Prop) (a c : D) : Prop where
  run : ∀ {F H : Hp} {x : V}, Ex F H → Rp K F x a → ∀ Q : VK, (∀ v F' H', Ex F F' → Ex F' H' → Ex H H' → Nw F F' H → Rp K F' v c → Q v H') → r x H Q
instance {K : PySem.W.Frag} {r : V → Hp → VK → Prop} {a c : D} : CoeFun (Op1 K r a c) fun _ => ∀ {F H : Hp} {x : V}, Ex F H → Rp K F x a → ∀ Q : VK, (∀ v F' H', Ex F F' → Ex F' H' → Ex H H' → Nw F F' H → Rp K F' v c → Q v H') → r x H Q := ⟨fun h => h.run⟩
structure OpN (K : PySem.W.Frag) (r : List V → Hp → VK → Prop) (ds : List D) (c : D) : Prop where
  run : ∀ {F H : Hp} {vs : List V}, Ex F H → RpA K F vs ds → ∀ Q : VK, (∀ v F' H', Ex F F' → Ex F' H' → Ex H H' → Nw F F' H → Rp K F' v c → Q v H') → r vs H Q
instance {K : PySem.W.Frag} {r : List V → Hp → VK → Prop} {ds : List D} {c : D} : CoeFun (OpN K r ds c) fun _ => ∀ {F H : Hp} {vs : List V}, Ex F H → RpA K F vs ds → ∀ Q : VK, (∀ v F' H', Ex F F' → Ex F' H' → Ex H H' → Nw F F' H → Rp K F' v c → Q v H') → r vs H Q := ⟨fun h => h.run⟩
structure OpNO (K : PySem.W.Frag) (r : List V → Hp → VK → Prop) (ds : List D) (l : List D) : Prop where
  run : ∀ {F H : Hp} {vs : List V}, Ex F H → RpA K F vs ds → ∀ Q : VK, (∀ p xs H', Ex H H' → H p = none → H' p = some (.lst xs) → RpA K F xs l → Q (.ref p) H') → r vs H Q
instance {K : PySem.W.Frag} {r : List V → Hp → VK → Prop} {ds : List D} {l : List D} : CoeFun (OpNO K r ds l) fun _ => ∀ {F H : Hp} {vs : List V}, Ex F H → RpA K F vs ds → ∀ Q : VK, (∀ p xs H', Ex H H' → H p = none → H' p = some (.lst xs) → RpA K F xs l → Q (.ref p) H') → r vs H Q := ⟨fun h => h.run⟩

section
variable {K : PySem.W.Frag} {G : List Sl} {ta tb te tx : TE} {t u : TT} {a b c d : D} {r : R2}
theorem Nw.trans {F F1 F2 H H1 : Hp} (a : Nw F F1 H) (b : Nw F1 F2 H1) (e : Ex H H1) : Nw F F2 H := fun x o h => by
  rcases b x o h with z | z
  · exact a x o z
  · exact .inr (ex_none e z)
theorem e_var {i : Nat} (h : G[i]? = some (.dat d)) : EvD K (tVar i) G d := .mk fun {H0 F0 F H σ} E Q q => by
  obtain ⟨v, h1, h2⟩ := E.dat i d h
  exact ⟨v, h1, q v F H E (Ex.refl F) (Ex.refl H) (Nw.refl F H) h2⟩
theorem e_none : EvD K (tC .non) G .non := .mk fun {H0 F0 F H σ} E Q q => q _ F H E (Ex.refl F) (Ex.refl H) (Nw.refl F H) .non
theorem e_int {i : Int} : EvD K (tC (.int i)) G (.int i) := .mk fun {H0 F0 F H σ} E Q q => q _ F H E (Ex.refl F) (Ex.refl H) (Nw.refl F H) (.int i)
theorem e_bl {i : Bool} : EvD K (tC (.bl i)) G (.bl i) := .mk fun {H0 F0 F H σ} E Q q => q _ F H E (Ex.refl F) (Ex.refl H) (Nw.refl F H) (.bl i)
theorem e_str {i : Str} : EvD K (tC (.str i)) G (.str i) := .mk fun {H0 F0 F H σ} E Q q => q _ F H E (Ex.refl F) (Ex.refl H) (Nw.refl F H) (.str i)
theorem e_is (h : EvD K te G a) (e : a = b) : EvD K te G b := e ▸ h
theorem t_is {x y : Bool} (h : EvTt K t G x) (e : x = y) : EvTt K t G y := e ▸ h
theorem e_op (h1 : EvD K ta G a) (h2 : EvD K tb G b) (h3 : Op2 K r a b c) : EvD K (tOp r ta tb) G c := .mk fun {H0 F0 F H σ} E Q q =>
  h1 E _ fun v F1 H1 E1 f1 g1 n1 r1 => h2 E1 _ fun w F2 H2 E2 f2 g2 n2 r2 => h3 E2.ef (r1.mono f2) r2 Q fun z F3 H3 f3 k3 g3 n3 r3 =>
    q z F3 H3 (E2.grow f3 g3 k3 n3) ((f1.trans f2).trans f3) ((g1.trans g2).trans g3) ((n1.trans n2 g1).trans n3 (g1.trans g2)) r3
theorem o_op {l : List D} (h1 : EvD K ta G a) (h2 : EvD K tb G b) (h3 : Op2O K r a b l) : EvO K (tOp r ta tb) G l := .mk fun {H0 F0 F H σ} E Q q =>
  h1 E _ fun v F1 H1 E1 f1 g1 n1 r1 => h2 E1 _ fun w F2 H2 E2 f2 g2 n2 r2 => h3 E2.ef (r1.mono f2) r2 Q fun p xs H3 g3 hp hp3 r3 =>
    q p xs F2 H3 (E2.grow (Ex.refl _) g3 (E2.ef.trans g3) (Nw.refl _ _)) (f1.trans f2) ((g1.trans g2).trans g3) (n1.trans n2 g1) (ex_none (g1.trans g2) hp) (ex_none E2.ef hp) hp3 r3
/-- a new list, shared -/
theorem e_share {l : List D} (h : EvO K te G l) : EvD K te G (.lst l) := .mk fun {H0 F0 F H σ} E Q q => h E Q fun p xs F1 H1 E1 f1 g1 n1 hp hf h1 r1 => by
  have ef : Ex F1 (upd F1 p (.lst xs)) := Ex.new hf
  have n2 : Nw F (upd F1 p (.lst xs)) H := nw_upd hp n1
  refine q (.ref p) (upd F1 p (.lst xs)) H1 (E.grow (f1.trans ef) g1 (fun z o y => ?_) n2) (f1.trans ef) g1 n2 (.lst upd_same (r1.mono ef))
  by_cases hz : z = p
  · subst hz
    rw [upd_same] at y
    cases y
    exact h1
  · rw [upd_ne hz] at y
    exact E1.ef z o y
theorem e_un {r : V → Hp → VK → Prop} (h1 : EvD K ta G a) (h3 : Op1 K r a c) : EvD K (tUn r ta) G c := .mk fun {H0 F0 F H σ} E Q q =>
  h1 E _ fun v F1 H1 E1 f1 g1 n1 r1 => h3 E1.ef r1 Q fun z F3 H3 f3 k3 g3 n3 r3 => q z F3 H3 (E1.grow f3 g3 k3 n3) (f1.trans f3) (g1.trans g3) (n1.trans n3 g1) r3
theorem s_nil : EvS K tNil G [] := .mk fun {H0 F0 F H σ} E Q q => q [] F H E (Ex.refl F) (Ex.refl H) (Nw.refl F H) .nil
theorem s_cons {tr : TA} {ds : List D} (h : EvD K ta G a) (hr : EvS K tr G ds) : EvS K (tCons ta tr) G (a :: ds) := .mk fun {H0 F0 F H σ} E Q q =>
  h E _ fun v F1 H1 E1 f1 g1 n1 r1 => hr E1 _ fun vs F2 H2 E2 f2 g2 n2 r2 => q (v :: vs) F2 H2 E2 (f1.trans f2) (g1.trans g2) (n1.trans n2 g1) (.cons (r1.mono f2) r2)
theorem e_tup {ta : TA} {ds : List D} (h : EvS K ta G ds) (hl : ds.length ≤ 100000) : EvD K (tTup ta) G (.tup ds) := .mk fun {H0 F0 F H σ} E Q q =>
  h E _ fun vs F1 H1 E1 f1 g1 n1 r1 => ⟨sz_of (by rw [r1.length]; exact hl), fun p hp => by
    have ef : Ex F1 (upd F1 p (.tup vs)) := Ex.new (ex_none E1.ef hp)
    have n2 : Nw F1 (upd F1 p (.tup vs)) H1 := nw_upd hp (Nw.refl _ _)
    exact q _ _ _ (E1.grow ef (Ex.new hp) (ex_upd_both E1.ef) n2) (f1.trans ef) (g1.trans (Ex.new hp)) (n1.trans n2 g1) (.tup upd_same (r1.mono ef))⟩
theorem o_lst {ta : TA} {ds : List D} (h : EvS K ta G ds) (hl : ds.length ≤ 100000) : EvO K (tLst ta) G ds := .mk fun {H0 F0 F H σ} E Q q =>
  h E _ fun vs F1 H1 E1 f1 g1 n1 r1 => ⟨sz_of (by rw [r1.length]; exact hl), fun p hp =>
    q p vs F1 _ (E1.grow (Ex.refl _) (Ex.new hp) (E1.ef.trans (Ex.new hp)) (Nw.refl _ _)) f1 (g1.trans (Ex.new hp)) n1 (ex_none g1 hp) (ex_none E1.ef hp) upd_same r1⟩
theorem e_cb {r : List V → Hp → VK → Prop} {ta : TA} {ds : List D} (h : EvS K ta G ds) (hr : OpN K r ds c) : EvD K (tCB r ta) G c := .mk fun {H0 F0 F H σ} E Q q =>
  h E _ fun vs F1 H1 E1 f1 g1 n1 r1 => hr E1.ef r1 Q fun z F3 H3 f3 k3 g3 n3 r3 => q z F3 H3 (E1.grow f3 g3 k3 n3) (f1.trans f3) (g1.trans g3) (n1.trans n3 g1) r3
theorem o_cb {r : List V → Hp → VK → Prop} {ta : TA} {ds l : List D} (h : EvS K ta G ds) (hr : OpNO K r ds l) : EvO K (tCB r ta) G l := .mk fun {H0 F0 F H σ} E Q q =>
  h E _ fun vs F1 H1 E1 f1 g1 n1 r1 => hr E1.ef r1 Q fun p xs H3 g3 hp hp3 r3 => q p xs F1 H3 (E1.grow (Ex.refl _) g3 (E1.ef.trans g3) (Nw.refl _ _)) f1 (g1.trans g3) n1 (ex_none g1 hp) (ex_none E1.ef hp) hp3 r3
/-! tests -/
theorem t_test {x : Bool} (h : EvD K te G (.bl x)) : EvTt K (tTest te) G x := .mk fun {H0 F0 F H σ} E Q q => h E _ fun v F1 H1 E1 f1 g1 n1 r1 => by
  cases r1
  exact ⟨x, rfl, q F1 H1 E1 f1 g1 n1⟩
theorem t_B {x : Bool} (h : EvD K te G (.bl x)) : EvTt K (tB te) G x := .mk fun {H0 F0 F H σ} E Q q => h E _ fun v F1 H1 E1 f1 g1 n1 r1 => by
  cases r1
  exact ⟨x, rfl, q F1 H1 E1 f1 g1 n1⟩
theorem t_and {x y : Bool} (h1 : EvTt K t G x) (h2 : x = true → EvTt K u G y) : EvTt K (tAnd t u) G (x && y) := .mk fun {H0 F0 F H σ} E Q q => h1 E _ fun F1 H1 E1 f1 g1 n1 => by
  cases x with
  | true =>
    show u σ H1 Q
    exact h2 rfl E1 Q fun F2 H2 E2 f2 g2 n2 => q F2 H2 E2 (f1.trans f2) (g1.trans g2) (n1.trans n2 g1)
  | false =>
    show Q false H1
    exact q F1 H1 E1 f1 g1 n1
theorem t_or {x y : Bool} (h1 : EvTt K t G x) (h2 : x = false → EvTt K u G y) : EvTt K (tOr t u) G (x || y) := .mk fun {H0 F0 F H σ} E Q q => h1 E _ fun F1 H1 E1 f1 g1 n1 => by
  cases x with
  | false =>
    show u σ H1 Q
    exact h2 rfl E1 Q fun F2 H2 E2 f2 g2 n2 => q F2 H2 E2 (f1.trans f2) (g1.trans g2) (n1.trans n2 g1)
  | true =>
    show Q true H1
    exact q F1 H1 E1 f1 g1 n1
theorem t_not {x : Bool} (h1 : EvTt K t G x) : EvTt K (tNot t) G (!x) := .mk fun {H0 F0 F H σ} E Q q => h1 E _ fun F1 H1 E1 f1 g1 n1 => q F1 H1 E1 f1 g1 n1
theorem t_yes : EvTt K tYes G true := .mk fun {H0 F0 F H σ} E Q q => q F H E (Ex.refl F) (Ex.refl H) (Nw.refl F H)
theorem e_andV {x y : Bool} (h1 : EvD K ta G (.bl x)) (h2 : x = true → EvD K tb G (.bl y)) : EvD K (tAndV ta tb) G (.bl (x && y)) := .mk fun {H0 F0 F H σ} E Q q => h1 E _ fun v F1 H1 E1 f1 g1 n1 r1 => by
  cases r1
  refine ⟨x, rfl, ?_⟩
  cases x with
  | true =>
    show tb σ H1 Q
    exact h2 rfl E1 Q fun w F2 H2 E2 f2 g2 n2 r2 => q w F2 H2 E2 (f1.trans f2) (g1.trans g2) (n1.trans n2 g1) r2
  | false =>
    show Q (.bl false) H1
    exact q _ F1 H1 E1 f1 g1 n1 (.bl _)
theorem e_orV {x y : Bool} (h1 : EvD K ta G (.bl x)) (h2 : x = false → EvD K tb G (.bl y)) : EvD K (tOrV ta tb) G (.bl (x || y)) := .mk fun {H0 F0 F H σ} E Q q => h1 E _ fun v F1 H1 E1 f1 g1 n1 r1 => by
  cases r1
  refine ⟨x, rfl, ?_⟩
  cases x with
  | false =>
    show tb σ H1 Q
    exact h2 rfl E1 Q fun w F2 H2 E2 f2 g2 n2 r2 => q w F2 H2 E2 (f1.trans f2) (g1.trans g2) (n1.trans n2 g1) r2
  | true =>
    show Q (.bl true) H1
    exact q _ F1 H1 E1 f1 g1 n1 (.bl _)
theorem e_notV {x : Bool} (h1 : EvD K ta G (.bl x)) : EvD K (tNotV ta) G (.bl (!x)) := .mk fun {H0 F0 F H σ} E Q q => h1 E _ fun v F1 H1 E1 f1 g1 n1 r1 => by
  cases r1
  exact ⟨x, rfl, q _ F1 H1 E1 f1 g1 n1 (.bl _)⟩
theorem e_if {x : Bool} (h : EvTt K t G x) (h1 : x = true → EvD K ta G d) (h2 : x = false → EvD K tb G d) : EvD K (tIf t ta tb) G d := .mk fun {H0 F0 F H σ} E Q q => h E _ fun F1 H1 E1 f1 g1 n1 => by
  cases x with
  | true =>
    show ta σ H1 Q
    exact h1 rfl E1 Q fun w F2 H2 E2 f2 g2 n2 r2 => q w F2 H2 E2 (f1.trans f2) (g1.trans g2) (n1.trans n2 g1) r2
  | false =>
    show tb σ H1 Q
    exact h2 rfl E1 Q fun w F2 H2 E2 f2 g2 n2 r2 => q w F2 H2 E2 (f1.trans f2) (g1.trans g2) (n1.trans n2 g1) r2
theorem e_ite {p : Prop} [Decidable p] {x : Bool} (h : EvTt K t G x) (hx : x = decide p) (h1 : p → EvD K ta G a) (h2 : ¬ p → EvD K tb G b) : EvD K (tIf t ta tb) G (if p then a else b) := by
  subst hx
  refine e_if h (fun q => ?_) (fun q => ?_)
  · rw [if_pos (of_decide_eq_true q)]
    exact h1 (of_decide_eq_true q)
  · rw [if_neg (of_decide_eq_false q)]
    exact h2 (of_decide_eq_false q)
/-- a chain of two comparisons -/
theorem e_chain {r r' : R2} {tc : TE} {x y : Bool} (h1 : EvD K ta G a) (h2 : EvD K tb G b) (h3 : Op2 K r a b (.bl x)) (h4 : x = true → EvD K tc G c) (h5 : x = true → Op2 K r' b c (.bl y)) : EvD K (tChain r r' ta tb tc) G (.bl (x && y)) := .mk fun {H0 F0 F H σ} E Q q =>
  h1 E _ fun v F1 H1 E1 f1 g1 n1 r1 => h2 E1 _ fun w F2 H2 E2 f2 g2 n2 r2 => h3 E2.ef (r1.mono f2) r2 _ fun z F3 H3 f3 k3 g3 n3 r3 => by
    cases r3
    refine ⟨x, rfl, ?_⟩
    have E3 := E2.grow f3 g3 k3 n3
    have N3 := ((n1.trans n2 g1).trans n3 (g1.trans g2))
    cases x with
    | true =>
      show tc σ H3 fun w' H4 => r' w w' H4 Q
      exact h4 rfl E3 _ fun w4 F4 H4 E4 f4 g4 n4 r4 => h5 rfl E4.ef (r2.mono (f3.trans f4)) r4 Q fun z5 F5 H5 f5 k5 g5 n5 r5 =>
        q z5 F5 H5 (E4.grow f5 g5 k5 n5) ((((f1.trans f2).trans f3).trans f4).trans f5) ((((g1.trans g2).trans g3).trans g4).trans g5) ((N3.trans n4 ((g1.trans g2).trans g3)).trans n5 (((g1.trans g2).trans g3).trans g4)) r5
    | false =>
      show Q (.bl false) H3
      exact q _ F3 H3 E3 ((f1.trans f2).trans f3) ((g1.trans g2).trans g3) N3 (.bl _)
theorem p_none : EvP K tNoPart G none := .mk fun {H0 F0 F H σ} E Q q => q F H E (Ex.refl F) (Ex.refl H) (Nw.refl F H)
theorem p_some {i : Int} (h : EvD K te G (.int i)) : EvP K (tPart te) G (some i) := .mk fun {H0 F0 F H σ} E Q q => h E _ fun v F1 H1 E1 f1 g1 n1 r1 => by
  cases r1
  exact ⟨i, rfl, q F1 H1 E1 f1 g1 n1⟩
/-- what is read of an owned list for a moment -/
theorem e_peek {i : Nat} {l : Ow} (h : G[i]? = some (.own l)) (hv : EvD K te (G.set i (.dat (datOf l))) d) (hd : ∀ {F F' : Hp} {v : V}, Rp K F v d → Rp K F' v d) : EvD K te G d := .mk fun {H0 F0 F H σ} E Q q => by
  obtain ⟨F1, f1, E1⟩ := E.freeze h
  refine hv E1 Q fun v F2 H2 E2 f2 g2 n2 r2 => q v F H2 ?_ (Ex.refl F) g2 (Nw.refl F H) (hd r2)
  exact E.grow (Ex.refl F) g2 (E.ef.trans g2) (Nw.refl F H)
theorem t_peek {i : Nat} {l : Ow} {x : Bool} (h : G[i]? = some (.own l)) (hv : EvTt K t (G.set i (.dat (datOf l))) x) : EvTt K t G x := .mk fun {H0 F0 F H σ} E Q q => by
  obtain ⟨F1, f1, E1⟩ := E.freeze h
  refine hv E1 Q fun F2 H2 E2 f2 g2 n2 => q F H2 ?_ (Ex.refl F) g2 (Nw.refl F H)
  exact E.grow (Ex.refl F) g2 (E.ef.trans g2) (Nw.refl F H)
end
theorem fix_int {K : PySem.W.Frag} {i : Int} {F F' : Hp} {v : V} (h : Rp K F v (.int i)) : Rp K F' v (.int i) := by
  cases h
  exact .int i
theorem fix_bl {K : PySem.W.Frag} {i : Bool} {F F' : Hp} {v : V} (h : Rp K F v (.bl i)) : Rp K F' v (.bl i) := by
  cases h
  exact .bl i
theorem fix_str {K : PySem.W.Frag} {i : Str} {F F' : Hp} {v : V} (h : Rp K F v (.str i)) : Rp K F' v (.str i) := by
  cases h
  exact .str i
theorem fix_non {K : PySem.W.Frag} {F F' : Hp} {v : V} (h : Rp K F v .non) : Rp K F' v .non := by
  cases h
  exact .non

/-! statements -/
inductive Out where
  | nx (G : List Sl)
  | rt (d : D)
  | ro (l : List D)
  | bk (G : List Sl)
  | ct (G : List Sl)
/-- what a return leaves -/
structure Ro (H0 F0 F' H' : Hp) : Prop where
  e0 : Ex H0 H'
  ef : Ex F' H'
  e1 : Ex F0 F'
  nf : ∀ a o, F' a = some o → F0 a = some o ∨ H0 a = none
theorem En.ro {K : PySem.W.Frag} {H0 F0 F H : Hp} {σ : L2.St} {G : List Sl} (E : En K H0 F0 F H σ G) : Ro H0 F0 F H := ⟨E.e0, E.ef, E.e1, E.nf⟩
def Post (K : PySem.W.Frag) (H0 F0 F : Hp) (o : Out) (E : Ends) : Prop := match o with
  | .nx G => ∀ σ F' H', En K H0 F0 F' H' σ G → Ex F F' → E.nx σ H'
  | .bk G => ∀ σ F' H', En K H0 F0 F' H' σ G → Ex F F' → E.bk σ H'
  | .ct G => ∀ σ F' H', En K H0 F0 F' H' σ G → Ex F F' → E.ct σ H'
  | .rt d => ∀ v F' H', Ro H0 F0 F' H' → Rp K F' v d → E.rt v H'
  | .ro l => ∀ p xs F' H', Ro H0 F0 F' H' → H0 p = none → F' p = none → H' p = some (.lst xs) → RpA K F' xs l → E.rt (.ref p) H'
structure StD (K : PySem.W.Frag) (t : TS) (G : List Sl) (o : Out) : Prop where
  run : ∀ {H0 F0 F H : Hp} {σ : L2.St} {E : Ends}, En K H0 F0 F H σ G → Post K H0 F0 F o E → t E σ H
instance {K : PySem.W.Frag} {t : TS} {G : List Sl} {o : Out} : CoeFun (StD K t G o) fun _ => ∀ {H0 F0 F H : Hp} {σ : L2.St} {E : Ends}, En K H0 F0 F H σ G → Post K H0 F0 F o E → t E σ H := ⟨fun h => h.run⟩
/-- assigning to a target -/
structure TgD (K : PySem.W.Frag) (g : TG) (G : List Sl) (d : D) (G' : List Sl) : Prop where
  run : ∀ {H0 F0 F H : Hp} {σ : L2.St} {v : V}, En K H0 F0 F H σ G → Rp K F v d → ∀ Q : L2.St → Hp → Prop, (∀ σ', En K H0 F0 F H σ' G' → Q σ' H) → g v σ H Q
instance {K : PySem.W.Frag} {g : TG} {G : List Sl} {d : D} {G' : List Sl} : CoeFun (TgD K g G d G') fun _ => ∀ {H0 F0 F H : Hp} {σ : L2.St} {v : V}, En K H0 F0 F H σ G → Rp K F v d → ∀ Q : L2.St → Hp → Prop, (∀ σ', En K H0 F0 F H σ' G' → Q σ' H) → g v σ H Q := ⟨fun h => h.run⟩
structure TgsD (K : PySem.W.Frag) (g : TGs) (G : List Sl) (ds : List D) (G' : List Sl) : Prop where
  run : ∀ {H0 F0 F H : Hp} {σ : L2.St} {vs : List V}, En K H0 F0 F H σ G → RpA K F vs ds → ∀ Q : L2.St → Hp → Prop, (∀ σ', En K H0 F0 F H σ' G' → Q σ' H) → g vs σ H Q
instance {K : PySem.W.Frag} {g : TGs} {G : List Sl} {ds : List D} {G' : List Sl} : CoeFun (TgsD K g G ds G') fun _ => ∀ {H0 F0 F H : Hp} {σ : L2.St} {vs : List V}, En K H0 F0 F H σ G → RpA K F vs ds → ∀ Q : L2.St → Hp → Prop, (∀ σ', En K H0 F0 F H σ' G' → Q σ' H) → g vs σ H Q := ⟨fun h => h.run⟩
section
variable {K : PySem.W.Frag} {G G1 G2 : List Sl} {ta tb te tx : TE} {t u : TT} {tu tw tz : TS} {a b c d : D} {o : Out} {g : TG} {gs : TGs}
theorem Post.weak {H0 F0 F F1 : Hp} {E : Ends} (h : Post K H0 F0 F o E) (f : Ex F F1) : Post K H0 F0 F1 o E := by
  cases o with
  | nx G => exact fun σ F' H' e x => h σ F' H' e (f.trans x)
  | bk G => exact fun σ F' H' e x => h σ F' H' e (f.trans x)
  | ct G => exact fun σ F' H' e x => h σ F' H' e (f.trans x)
  | rt d => exact h
  | ro l => exact h
theorem g_name {i : Nat} : TgD K (gName i) G d (G.set i (.dat d)) := .mk fun {H0 F0 F H σ v} E r Q q => q _ (E.setD r i)
theorem gs_nil : TgsD K gNil G [] G := .mk fun {H0 F0 F H σ vs} E r Q q => by
  cases r
  exact ⟨rfl, q σ E⟩
theorem gs_cons {ds : List D} (h1 : TgD K g G d G1) (h2 : TgsD K gs G1 ds G2) : TgsD K (gCons g gs) G (d :: ds) G2 := .mk fun {H0 F0 F H σ vs} E r Q q => by
  cases r with
  | cons r1 r2 => exact ⟨_, _, rfl, h1 E r1 _ fun σ1 E1 => h2 E1 r2 Q q⟩
theorem g_tup {ds : List D} {n : Nat} (h : TgsD K gs G ds G1) (hn : ds.length = n) : TgD K (gTup K n gs) G (.tup ds) G1 := .mk fun {H0 F0 F H σ v} E r Q q => by
  cases r with
  | tup ha rs => exact ⟨_, _, rfl, Or.inl (Or.inl (E.ef _ _ ha)), by rw [rs.length]; exact hn, h E rs Q q⟩
theorem st_asg (h : EvD K te G d) (hg : TgD K g G d G1) : StD K (tAsg te g) G (.nx G1) := .mk fun {H0 F0 F H σ E} En p => h En _ fun v F1 H1 E1 f1 g1 n1 r1 => hg E1 r1 _ fun σ2 E2 => p σ2 F1 H1 E2 f1
theorem st_asgO {i : Nat} {l : List D} (h : EvO K te G l) : StD K (tAsg te (gName i)) G (.nx (G.set i (.own (.lst l)))) := .mk fun {H0 F0 F H σ E} En p => h En _ fun q xs F1 H1 E1 f1 g1 n1 hq hf h1 r1 =>
  p _ F1 H1 (E1.setO hf (ex_none En.e0 hq) h1 (.lst r1) i fun j lj hj _ hs => by
    obtain ⟨p2, xs2, a2, b2, c2, d2, r2⟩ := En.own j lj hj
    rw [a2] at hs
    cases hs
    rw [hq] at d2
    cases d2) f1
theorem st_seq (h1 : StD K tu G (.nx G1)) (h2 : StD K tw G1 o) : StD K (tSeq tu tw) G o := .mk fun {H0 F0 F H σ E} En p => h1.run (E := { E with nx := tw E }) En fun σ1 F1 H1 E1 f1 => h2 E1 (p.weak f1)
theorem st_stop (h1 : StD K tu G o) (ho : ∀ G, o ≠ .nx G) : StD K (tSeq tu tw) G o := .mk fun {H0 F0 F H σ E} En p => h1.run (E := { E with nx := tw E }) En (by
  cases o with
  | nx G => exact absurd rfl (ho G)
  | bk G => exact p
  | ct G => exact p
  | rt d => exact p
  | ro l => exact p)
theorem st_next : StD K tNext G (.nx G) := .mk fun {H0 F0 F H σ E} En p => p σ F H En (Ex.refl F)
theorem st_ret (h : EvD K te G d) : StD K (tRet te) G (.rt d) := .mk fun {H0 F0 F H σ E} En p => h En _ fun v F1 H1 E1 f1 g1 n1 r1 => p v F1 H1 E1.ro r1
theorem st_retO {l : List D} (h : EvO K te G l) : StD K (tRet te) G (.ro l) := .mk fun {H0 F0 F H σ E} En p => h En _ fun q xs F1 H1 E1 f1 g1 n1 hq hf h1 r1 => p q xs F1 H1 E1.ro (ex_none En.e0 hq) hf h1 r1
theorem st_retV {i : Nat} {l : List D} (h : G[i]? = some (.own (.lst l))) : StD K (tRet (tVar i)) G (.ro l) := .mk fun {H0 F0 F H σ E} En p => by
  obtain ⟨q, o, a1, b1, c1, d1, r1⟩ := En.own i _ h
  cases r1 with
  | lst r1 => exact ⟨_, a1, p q _ F H En.ro c1 b1 d1 r1⟩
theorem st_brk : StD K tBreak G (.bk G) := .mk fun {H0 F0 F H σ E} En p => p σ F H En (Ex.refl F)
theorem st_cont : StD K tCont G (.ct G) := .mk fun {H0 F0 F H σ E} En p => p σ F H En (Ex.refl F)
theorem st_if {x : Bool} (h : EvTt K t G x) (h1 : x = true → StD K tu G o) (h2 : x = false → StD K tw G o) : StD K (tIfS t tu tw) G o := .mk fun {H0 F0 F H σ E} En p => h En _ fun F1 H1 E1 f1 g1 n1 => by
  cases x with
  | true =>
    show tu E σ H1
    exact h1 rfl E1 (p.weak f1)
  | false =>
    show tw E σ H1
    exact h2 rfl E1 (p.weak f1)
theorem st_drop (h : EvD K te G d) : StD K (tDrop te) G (.nx G) := .mk fun {H0 F0 F H σ E} En p => h En _ fun v F1 H1 E1 f1 g1 n1 r1 => p σ F1 H1 E1 f1
theorem st_freeze {i : Nat} {l : Ow} (h : G[i]? = some (.own l)) (hs : StD K tu (G.set i (.dat (datOf l))) o) : StD K tu G o := .mk fun {H0 F0 F H σ E} En p => by
  obtain ⟨F1, f1, E1⟩ := En.freeze h
  exact hs E1 (p.weak f1)
/-- forgetting a slot -/
theorem st_is {o' : Out} (h : StD K tu G o) (e : o = o') : StD K tu G o' := e ▸ h
theorem e_own {i : Nat} {l : List D} (h : G[i]? = some (.own (.lst l))) {H0 F0 F H : Hp} {σ : L2.St} (E : En K H0 F0 F H σ G) {Q : VK} (q : ∀ p xs, σ[i]? = some (some (.ref p)) → H p = some (.lst xs) → F p = none → RpA K F xs l → Q (.ref p) H) : tVar i σ H Q := by
  obtain ⟨p, o, a1, b1, c1, d1, r1⟩ := E.own i _ h
  cases r1 with
  | lst r1 => exact ⟨_, a1, q p _ a1 d1 b1 r1⟩
/-- xs.append(e) -/
theorem st_app {i : Nat} {l : List D} (h : G[i]? = some (.own (.lst l))) (he : EvD K te G d) (hz : l.length < 100000) : StD K (tDrop (tBM K "list" rAppend (tVar i) (tCons te tNil))) G (.nx (G.set i (.own (.lst (l ++ [d]))))) := .mk fun {H0 F0 F H σ E} En p =>
  by
  unfold tDrop tBM
  exact e_own h En fun q xs hq hH hF hr => ⟨Or.inl ⟨rfl, xs, sq_of hH⟩, he En _ fun v F1 H1 E1 f1 g1 n1 r1 => by
    refine ⟨q, xs, v, rfl, rfl, g1 _ _ hH, sz_lt (by rw [hr.length]; exact hz), ?_⟩
    exact p σ F1 _ (E1.mut h hq (.lst ((hr.mono f1).app (.cons r1 .nil)))) f1⟩
/-- xs[j] = e -/
theorem st_setI {i : Nat} {l : List D} {j : Nat} (h : G[i]? = some (.own (.lst l))) (he : EvD K te G d) (hi : EvD K tx G (.int (j : Int))) (hj : j < l.length) : StD K (tAsg te (gSub (tVar i) tx rSetL)) G (.nx (G.set i (.own (.lst (l.set j d))))) := .mk fun {H0 F0 F H σ E} En p =>
  he En _ fun v F1 H1 E1 f1 g1 n1 r1 => e_own h E1 fun q xs hq hH hF hr => hi E1 _ fun w F2 H2 E2 f2 g2 n2 r2 => by
    cases r2
    refine ⟨q, xs, (j : Int), j, rfl, rfl, g2 _ _ hH, ixN_nat (by rw [hr.length]; exact hj), ?_⟩
    exact p σ F2 _ (E2.mut h hq (.lst ((hr.mono f2).set (r1.mono f2) j))) (f1.trans f2)
end
end Cy

set_option Elab.async false
set_option linter.all false
set_option maxRecDepth 100000
set_option maxHeartbeats 2000000
namespace Cy
open PySem L2 Evl

/-! promises over data -/
/-- hands back a value that bears d -/
def spD (K : PySem.W.Frag) (R : List D → D → Prop) : Sp := fun vs H Q _ => ∃ F ds d, Ex F H ∧ RpA K F vs ds ∧ R ds d ∧ ∀ v F' H', Ro H F F' H' → Rp K F' v d → Q v H'
/-- hands back a new list -/
def spO (K : PySem.W.Frag) (R : List D → List D → Prop) : Sp := fun vs H Q _ => ∃ F ds l, Ex F H ∧ RpA K F vs ds ∧ R ds l ∧ ∀ p xs F' H', Ro H F F' H' → H p = none → F' p = none → H' p = some (.lst xs) → RpA K F' xs l → Q (.ref p) H'
section
variable {K : PySem.W.Frag} {G G1 G2 : List Sl} {ta : TA} {te tx : TE} {t u tt : TT} {tu tw tz : TS} {d : D} {ds l : List D} {o : Out} {g : TG}
theorem Ro.nw {H0 F0 F' H' : Hp} (r : Ro H0 F0 F' H') : Nw F0 F' H0 := r.nf
theorem e_call {R : List D → D → Prop} {E : XK} (h : EvS K ta G ds) (hR : R ds d) : EvD K (tCall (spD K R) [] E ta) G d := .mk fun {H0 F0 F H σ} En Q q =>
  h En _ fun vs F1 H1 E1 f1 g1 n1 r1 => by
    refine ⟨F1, ds, d, E1.ef, by rw [List.append_nil]; exact r1, hR, fun v F2 H2 ro r2 => ?_⟩
    exact q v F2 H2 (E1.grow ro.e1 ro.e0 ro.ef ro.nf) (f1.trans ro.e1) (g1.trans ro.e0) (n1.trans ro.nf g1) r2
theorem o_call {R : List D → List D → Prop} {E : XK} (h : EvS K ta G ds) (hR : R ds l) : EvO K (tCall (spO K R) [] E ta) G l := .mk fun {H0 F0 F H σ} En Q q =>
  h En _ fun vs F1 H1 E1 f1 g1 n1 r1 => by
    refine ⟨F1, ds, l, E1.ef, by rw [List.append_nil]; exact r1, hR, fun p xs F2 H2 ro hp hf hh r2 => ?_⟩
    exact q p xs F2 H2 (E1.grow ro.e1 ro.e0 ro.ef ro.nf) (f1.trans ro.e1) (g1.trans ro.e0) (n1.trans ro.nf g1) (ex_none g1 hp) hf hh r2
/-- the slots at a def's entry -/
def args (n : Nat) (ds : List D) : List Sl := ds.map Sl.dat ++ List.replicate (n - ds.length) Sl.no
theorem start_en {N : List Str} {vs : List V} {F H : Hp} (e : Ex F H) (r : RpA K F vs ds) (hn : ds.length ≤ N.length) : En K H F F H (start N vs) (args N.length ds) := by
  have hs : start N vs = vs.map some ++ List.replicate (N.length - vs.length) none := by
    first | rfl | (unfold start; rfl)
  have hl := r.length
  rw [hs, hl]
  unfold args
  refine ⟨fun i d h => ?_, fun i l h => ?_, fun i j li lj p hij h1 h2 h3 => ?_, Ex.refl H, e, Ex.refl F, fun a o h => .inl h, ?_⟩
  · by_cases hi : i < ds.length
    · rw [List.getElem?_append_left (by rw [List.length_map]; exact hi), List.getElem?_map] at h
      cases q : ds[i]? with
      | none =>
        rw [q] at h
        cases h
      | some e' =>
        rw [q] at h
        cases h
        obtain ⟨v, h1, h2⟩ := r.get q
        refine ⟨v, ?_, h2⟩
        rw [List.getElem?_append_left (by rw [List.length_map, hl]; exact hi), List.getElem?_map, h1]
        rfl
    · rw [List.getElem?_append_right (by rw [List.length_map]; omega), List.length_map] at h
      have := List.mem_of_getElem? h
      rw [List.mem_replicate] at this
      cases this.2
  · by_cases hi : i < ds.length
    · rw [List.getElem?_append_left (by rw [List.length_map]; exact hi), List.getElem?_map] at h
      cases q : ds[i]? with
      | none =>
        rw [q] at h
        cases h
      | some e' =>
        rw [q] at h
        cases h
    · rw [List.getElem?_append_right (by rw [List.length_map]; omega), List.length_map] at h
      have := List.mem_of_getElem? h
      rw [List.mem_replicate] at this
      cases this.2
  · by_cases hi : i < ds.length
    · rw [List.getElem?_append_left (by rw [List.length_map]; exact hi), List.getElem?_map] at h1
      cases q : ds[i]? with
      | none =>
        rw [q] at h1
        cases h1
      | some e' =>
        rw [q] at h1
        cases h1
    · rw [List.getElem?_append_right (by rw [List.length_map]; omega), List.length_map] at h1
      have := List.mem_of_getElem? h1
      rw [List.mem_replicate] at this
      cases this.2
  · rw [List.length_append, List.length_append, List.length_map, List.length_map, List.length_replicate, List.length_replicate, hl]
/-- a def's body, read from its arguments' data -/
theorem body_D {N : List Str} {R : List D → D → Prop} {vs : List V} {H : Hp} {Q : VK} {E : XK} {t : TS} (h : spD K R vs H Q E) (hn : ∀ ds d, R ds d → ds.length ≤ N.length)
    (hb : ∀ ds d, R ds d → StD K t (args N.length ds) (.rt d)) : t { nx := fun _ H' => Q .non H', rt := Q } (start N vs) H := by
  obtain ⟨F, ds, d, e, r, hR, q⟩ := h
  exact hb ds d hR (start_en e r (hn ds d hR)) fun v F' H' ro r' => q v F' H' ro r'
/-- .. that ends without a return -/
theorem body_N {N : List Str} {R : List D → D → Prop} {vs : List V} {H : Hp} {Q : VK} {E : XK} {t : TS} (h : spD K R vs H Q E) (hn : ∀ ds d, R ds d → ds.length ≤ N.length)
    (hb : ∀ ds d, R ds d → d = .non ∧ ∃ G, StD K t (args N.length ds) (.nx G)) : t { nx := fun _ H' => Q .non H', rt := Q } (start N vs) H := by
  obtain ⟨F, ds, d, e, r, hR, q⟩ := h
  obtain ⟨hd, G, hs⟩ := hb ds d hR
  subst hd
  exact hs (start_en e r (hn ds _ hR)) fun σ F' H' E' f' => q .non F' H' E'.ro .non
theorem body_O {N : List Str} {R : List D → List D → Prop} {vs : List V} {H : Hp} {Q : VK} {E : XK} {t : TS} (h : spO K R vs H Q E) (hn : ∀ ds d, R ds d → ds.length ≤ N.length)
    (hb : ∀ ds d, R ds d → StD K t (args N.length ds) (.ro d)) : t { nx := fun _ H' => Q .non H', rt := Q } (start N vs) H := by
  obtain ⟨F, ds, d, e, r, hR, q⟩ := h
  exact hb ds d hR (start_en e r (hn ds d hR)) fun p xs F' H' ro h0 hf hh r' => q p xs F' H' ro h0 hf hh r'

/-! walks -/
/-- the walk J gives these, one by one -/
structure WkD (K : PySem.W.Frag) (F : Hp) (J : It) (items : List D) : Prop where
  ex : ∃ Gp Y, Walk J items.length Gp Y ∧ (∀ H, Ex F H → Gp H) ∧ ∀ i H x H' F1, Ex F F1 → Ex F1 H → Y i H x H' → ∃ F2 d, Ex F1 F2 ∧ Ex H H' ∧ Ex F2 H' ∧ Nw F1 F2 H ∧ items[i]? = some d ∧ Rp K F2 x d
structure ItD (K : PySem.W.Frag) (wi : TI) (G : List Sl) (items : List D) : Prop where
  run : ∀ {H0 F0 F H : Hp} {σ : L2.St}, En K H0 F0 F H σ G → ∀ R : It → Hp → Prop, (∀ J F' H', En K H0 F0 F' H' σ G → Ex F F' → Ex H H' → Nw F F' H → WkD K F' J items → R J H') → wi σ H R
instance {K : PySem.W.Frag} {wi : TI} {G : List Sl} {items : List D} : CoeFun (ItD K wi G items) fun _ => ∀ {H0 F0 F H : Hp} {σ : L2.St}, En K H0 F0 F H σ G → ∀ R : It → Hp → Prop, (∀ J F' H', En K H0 F0 F' H' σ G → Ex F F' → Ex H H' → Nw F F' H → WkD K F' J items → R J H') → wi σ H R := ⟨fun h => h.run⟩
theorem wk_same {F : Hp} {J : It} {items : List D} {xs : List V} {Gp : Hp → Prop} {Y : Nat → Hp → V → Hp → Prop} (w : Walk J items.length Gp Y) (hg : ∀ H, Ex F H → Gp H) (r : RpA K F xs items) (hy : ∀ i H x H', Y i H x H' → H' = H ∧ xs[i]? = some x) : WkD K F J items := by
  refine ⟨Gp, Y, w, hg, fun i H x H' F1 e1 e2 y => ?_⟩
  obtain ⟨rfl, hx⟩ := hy i H x H' y
  have hi : i < items.length := by
    rw [← r.length]
    exact (List.getElem?_eq_some_iff.mp hx).1
  obtain ⟨v, h1, h2⟩ := r.get (List.getElem?_eq_getElem hi)
  rw [hx] at h1
  cases h1
  exact ⟨F1, items[i], Ex.refl _, Ex.refl _, e2, Nw.refl _ _, List.getElem?_eq_getElem hi, h2.mono e1⟩
theorem it_list (h : EvD K te G (.lst l)) : ItD K (iList K te) G l := .mk fun {H0 F0 F H σ} En R q => h En _ fun v F1 H1 E1 f1 g1 n1 r1 => by
  cases r1 with
  | lst ha rs =>
    refine ⟨_, rfl, ⟨_, sq_of (E1.ef _ _ ha)⟩, q _ F1 H1 E1 f1 g1 n1 ?_⟩
    refine wk_same (xs := _) (by rw [← rs.length]; exact walk_list) (fun H e => sq_of (e _ _ ha)) rs fun i H x H' y => y
theorem it_scr {ns : List Int} (h : EvD K te G (.scr ns)) : ItD K (iList K te) G (ns.map D.int) := .mk fun {H0 F0 F H σ} En R q => h En _ fun v F1 H1 E1 f1 g1 n1 r1 => by
  cases r1 with
  | scr hs =>
    refine ⟨_, rfl, ⟨_, ex_l E1.ef hs⟩, q _ F1 H1 E1 f1 g1 n1 ?_⟩
    have hl : (ns.map D.int).length = (ns.map V.int).length := by rw [List.length_map, List.length_map]
    exact wk_same (xs := ns.map V.int) (by rw [hl]; exact walk_list) (fun H e => ex_l e hs) (RpA.ofInts ns) fun i H x H' y => y
theorem it_tup (h : EvD K te G (.tup l)) : ItD K (iTup K te) G l := .mk fun {H0 F0 F H σ} En R q => h En _ fun v F1 H1 E1 f1 g1 n1 r1 => by
  cases r1 with
  | tup ha rs =>
    refine ⟨_, rfl, ⟨_, st_of (E1.ef _ _ ha)⟩, q _ F1 H1 E1 f1 g1 n1 ?_⟩
    refine wk_same (xs := _) (by rw [← rs.length]; exact walk_tup) (fun H e => st_of (e _ _ ha)) rs fun i H x H' y => y
theorem wk_fn {F : Hp} {J : It} {n : Nat} {f : Nat → Int} {Y : Nat → Hp → V → Hp → Prop} (w : Walk J n (fun _ => True) Y) (hy : ∀ i H x H', Y i H x H' → i < n ∧ H' = H ∧ x = .int (f i)) : WkD K F J ((List.range n).map fun i => D.int (f i)) := by
  have hl : ((List.range n).map fun i => D.int (f i)).length = n := by rw [List.length_map, List.length_range]
  refine ⟨_, Y, by rw [hl]; exact w, fun _ _ => trivial, fun i H x H' F1 e1 e2 y => ?_⟩
  obtain ⟨hi, rfl, rfl⟩ := hy i H x H' y
  refine ⟨F1, .int (f i), Ex.refl _, Ex.refl _, e2, Nw.refl _ _, ?_, .int _⟩
  rw [List.getElem?_map, List.getElem?_range hi]
  rfl
/-- ints lo, lo + 1, .. -/
def rngD (lo : Int) (n : Nat) : List D := (List.range n).map fun (i : Nat) => D.int (lo + (i : Int))
theorem walk_rng {lo : Int} {n : Nat} {F : Hp} : WkD K F (Itr lo n) (rngD lo n) :=
  wk_fn (f := fun (i : Nat) => lo + (i : Int)) (w := (⟨fun _ _ hi _ => hi, fun _ _ => Nat.le_refl _, fun i H x H' hi _ y => ⟨hi, y.1, y.2⟩⟩ : Walk (Itr lo n) n (fun _ => True) fun i H x H' => i < n ∧ H' = H ∧ x = .int (lo + (i : Int)))) fun i H x H' y => y
theorem it_rng1 {n : Int} (h : EvS K ta G [.int n]) (hn : -(2 ^ 62) ≤ n ∧ n < 2 ^ 62) : ItD K (iRng1 ta) G (rngD 0 n.toNat) := .mk fun {H0 F0 F H σ} En R q => h En _ fun vs F1 H1 E1 f1 g1 n1 r1 => by
  cases r1 with
  | cons a b =>
    cases b
    cases a
    exact ⟨n, rfl, hn.1, hn.2, q _ F1 H1 E1 f1 g1 n1 walk_rng⟩
theorem it_rng2 {lo n : Int} (h : EvS K ta G [.int lo, .int n]) (hn : -(2 ^ 62) ≤ lo ∧ lo < 2 ^ 62 ∧ -(2 ^ 62) ≤ n ∧ n < 2 ^ 62) : ItD K (iRng2 ta) G (rngD lo (n - lo).toNat) := .mk fun {H0 F0 F H σ} En R q => h En _ fun vs F1 H1 E1 f1 g1 n1 r1 => by
  cases r1 with
  | cons a b =>
    cases b with
    | cons b c =>
      cases c
      cases a
      cases b
      exact ⟨lo, n, rfl, hn, q _ F1 H1 E1 f1 g1 n1 walk_rng⟩
/-- the signs of a text -/
def signs (x : Str) : List D := x.cps.toList.map fun c => D.str ⟨#[c]⟩
theorem it_str {x : Str} (h : EvD K te G (.str x)) : ItD K (iStr te) G (signs x) := .mk fun {H0 F0 F H σ} En R q => h En _ fun v F1 H1 E1 f1 g1 n1 r1 => by
  cases r1
  refine ⟨x, rfl, q _ F1 H1 E1 f1 g1 n1 ?_⟩
  have hl : (signs x).length = x.cps.size := by
    unfold signs
    rw [List.length_map]
    rfl
  refine ⟨_, _, by rw [hl]; exact walk_str, fun _ _ => trivial, fun i H x' H' F1 e1 e2 y => ?_⟩
  obtain ⟨rfl, c, hc, rfl⟩ := y
  refine ⟨F1, _, Ex.refl _, Ex.refl _, e2, Nw.refl _ _, ?_, .str _⟩
  unfold signs
  rw [List.getElem?_map, Array.getElem?_toList, hc]
  rfl
/-- pairs of a place and an item -/
def enumD (l : List D) : List D := (List.range l.length).map fun (i : Nat) => D.tup [.int (i : Int), l.getD i .non]
theorem it_enum (h : EvS K ta G [.lst l]) : ItD K (iEnum K ta) G (enumD l) := .mk fun {H0 F0 F H σ} En R q => h En _ fun vs F1 H1 E1 f1 g1 n1 r1 => by
  cases r1 with
  | cons a b =>
    cases b
    cases a with
    | lst ha rs =>
      refine ⟨_, _, rfl, sq_of (E1.ef _ _ ha), q _ F1 H1 E1 f1 g1 n1 ?_⟩
      have hl : (enumD l).length = l.length := by
        unfold enumD
        rw [List.length_map, List.length_range]
      refine ⟨_, _, by rw [hl, ← rs.length]; exact walk_enum, fun H e => sq_of (e _ _ ha), fun i H x' H' F1 e1 e2 y => ?_⟩
      obtain ⟨T, x, y, rfl, hT, rfl, hx, hy⟩ := y
      cases hx
      dsimp only at hy
      have hi : i < l.length := by
        rw [← rs.length]
        exact (List.getElem?_eq_some_iff.mp hy).1
      obtain ⟨v, h1, h2⟩ := rs.get (List.getElem?_eq_getElem hi)
      rw [hy] at h1
      cases h1
      have ef : Ex F1 (upd F1 T (.tup [.int (i : Int), y])) := Ex.new (ex_none e2 hT)
      refine ⟨upd F1 T (.tup [.int (i : Int), y]), .tup [.int (i : Int), l[i]], ef, Ex.new hT, ex_upd_both e2, nw_upd hT (Nw.refl _ _), ?_, .tup upd_same (.cons (.int _) (.cons (h2.mono (e1.trans ef)) .nil))⟩
      unfold enumD
      rw [List.getElem?_map, List.getElem?_range hi]
      show some (D.tup [.int (i : Int), l.getD i .non]) = _
      rw [List.getD_eq_getElem?_getD, List.getElem?_eq_getElem hi]
      rfl
/-- pairs of two lists -/
def zipD (l m : List D) : List D := (List.range (min l.length m.length)).map fun i => D.tup [l.getD i .non, m.getD i .non]
theorem it_zip {m : List D} (h : EvS K ta G [.lst l, .lst m]) : ItD K (iZip K ta) G (zipD l m) := .mk fun {H0 F0 F H σ} En R q => h En _ fun vs F1 H1 E1 f1 g1 n1 r1 => by
  cases r1 with
  | cons a b =>
    cases b with
    | cons b c =>
      cases c
      cases a with
      | lst ha rs =>
        cases b with
        | lst hb rt =>
          refine ⟨_, _, _, _, rfl, sq_of (E1.ef _ _ ha), sq_of (E1.ef _ _ hb), q _ F1 H1 E1 f1 g1 n1 ?_⟩
          have hl : (zipD l m).length = min l.length m.length := by
            unfold zipD
            rw [List.length_map, List.length_range]
          refine ⟨_, _, walk_zip (by rw [hl, rs.length, rt.length]), fun H e => ⟨sq_of (e _ _ ha), sq_of (e _ _ hb)⟩, fun i H x' H' F1 e1 e2 y => ?_⟩
          obtain ⟨T, x, y, rfl, hT, rfl, hx, hy⟩ := y
          dsimp only at hx hy
          have hi : i < l.length := by
            rw [← rs.length]
            exact (List.getElem?_eq_some_iff.mp hx).1
          have hj : i < m.length := by
            rw [← rt.length]
            exact (List.getElem?_eq_some_iff.mp hy).1
          obtain ⟨v, h1, h2⟩ := rs.get (List.getElem?_eq_getElem hi)
          rw [hx] at h1
          cases h1
          obtain ⟨w, h3, h4⟩ := rt.get (List.getElem?_eq_getElem hj)
          rw [hy] at h3
          cases h3
          have ef : Ex F1 (upd F1 T (.tup [x, y])) := Ex.new (ex_none e2 hT)
          refine ⟨upd F1 T (.tup [x, y]), .tup [l[i], m[i]], ef, Ex.new hT, ex_upd_both e2, nw_upd hT (Nw.refl _ _), ?_, .tup upd_same (.cons (h2.mono (e1.trans ef)) (.cons (h4.mono (e1.trans ef)) .nil))⟩
          unfold zipD
          rw [List.getElem?_map, List.getElem?_range (by omega)]
          show some (D.tup [l.getD i .non, m.getD i .non]) = _
          rw [List.getD_eq_getElem?_getD, List.getElem?_eq_getElem hi, List.getD_eq_getElem?_getD, List.getElem?_eq_getElem hj]
          rfl
/-- ints from above: lo + n - 1, .., lo -/
def downD (lo : Int) (n : Nat) : List D := (List.range n).map fun (i : Nat) => D.int (lo + (n : Int) - 1 - (i : Int))
/-- a range as a value -/
structure RgD (K : PySem.W.Frag) (tr : L2.St → Hp → (Int → Int → Hp → Prop) → Prop) (G : List Sl) (a b : Int) : Prop where
  run : ∀ {H0 F0 F H : Hp} {σ : L2.St}, En K H0 F0 F H σ G → ∀ Q : Int → Int → Hp → Prop, (∀ F' H', En K H0 F0 F' H' σ G → Ex F F' → Ex H H' → Nw F F' H → Q a b H') → tr σ H Q
instance {K : PySem.W.Frag} {tr : L2.St → Hp → (Int → Int → Hp → Prop) → Prop} {G : List Sl} {a b : Int} : CoeFun (RgD K tr G a b) fun _ => ∀ {H0 F0 F H : Hp} {σ : L2.St}, En K H0 F0 F H σ G → ∀ Q : Int → Int → Hp → Prop, (∀ F' H', En K H0 F0 F' H' σ G → Ex F F' → Ex H H' → Nw F F' H → Q a b H') → tr σ H Q := ⟨fun h => h.run⟩
theorem it_revR {tr : L2.St → Hp → (Int → Int → Hp → Prop) → Prop} {a b : Int} (h : RgD K tr G a b) (hn : -(2 ^ 62) ≤ a ∧ a < 2 ^ 62 ∧ -(2 ^ 62) ≤ b ∧ b < 2 ^ 62) : ItD K (iRevR tr) G (downD a (b - a).toNat) := .mk fun {H0 F0 F H σ} En R q =>
  h En _ fun F1 H1 E1 f1 g1 n1 => ⟨hn.1, hn.2.1, hn.2.2.1, hn.2.2.2, q _ F1 H1 E1 f1 g1 n1 (by
    refine wk_fn (f := fun (i : Nat) => a + (((b - a).toNat : Nat) : Int) - 1 - (i : Int)) (w := (⟨fun _ _ hi _ => hi, fun _ _ => Nat.le_refl _, fun i H x H' hi _ y => ⟨hi, y.1, ?_⟩⟩ : Walk (Itc (a + (((b - a).toNat : Nat) : Int) - 1) (-1) (b - a).toNat) (b - a).toNat (fun _ => True) fun i H x H' => i < (b - a).toNat ∧ H' = H ∧ x = .int (a + (((b - a).toNat : Nat) : Int) - 1 - (i : Int)))) fun i H x H' y => y
    rw [y.2]
    congr 1
    omega)⟩

/-! what is forgotten -/
inductive Wk : List Sl → List Sl → Prop
  | nil : Wk [] []
  | keep {a : Sl} {l m : List Sl} : Wk l m → Wk (a :: l) (a :: m)
  | drop {a : Sl} {l m : List Sl} : Wk l m → Wk (a :: l) (.no :: m)
theorem Wk.refl : ∀ l : List Sl, Wk l l
  | [] => .nil
  | _ :: l => .keep (Wk.refl l)
theorem Wk.get : ∀ {l m : List Sl} {i : Nat} {x : Sl}, Wk l m → m[i]? = some x → x = .no ∨ l[i]? = some x
  | _, _, i, x, .nil, h => by simp at h
  | _, _, 0, x, .keep _, h => .inr (by simpa using h)
  | _, _, 0, x, .drop _, h => .inl (by simp at h; exact h.symm)
  | _, _, i + 1, x, .keep w, h => by
    have := Wk.get (i := i) (x := x) w (by simpa using h)
    simpa using this
  | _, _, i + 1, x, .drop w, h => by
    have := Wk.get (i := i) (x := x) w (by simpa using h)
    simpa using this
theorem Wk.length : ∀ {l m : List Sl}, Wk l m → l.length = m.length
  | _, _, .nil => rfl
  | _, _, .keep w => by rw [List.length_cons, List.length_cons, Wk.length w]
  | _, _, .drop w => by rw [List.length_cons, List.length_cons, Wk.length w]
theorem En.weak {H0 F0 F H : Hp} {σ : L2.St} {G' : List Sl} (E : Cy.En K H0 F0 F H σ G) (w : Wk G G') : Cy.En K H0 F0 F H σ G' where
  dat := fun i d h => by
    rcases w.get h with z | z
    · cases z
    · exact E.dat i d z
  own := fun i d h => by
    rcases w.get h with z | z
    · cases z
    · exact E.own i d z
  dis := fun i j li lj p hij h1 h2 h3 => by
    rcases w.get h1 with z | z
    · cases z
    · rcases w.get h2 with y | y
      · cases y
      · exact E.dis i j li lj p hij z y h3
  e0 := E.e0
  ef := E.ef
  e1 := E.e1
  nf := E.nf
  len := by rw [E.len, w.length]
theorem st_weak (h : StD K tu G (.nx G1)) (w : Wk G1 G2) : StD K tu G (.nx G2) := .mk fun {H0 F0 F H σ E} En p => h En fun σ F' H' E' f => p σ F' H' (E'.weak w) f
theorem st_from (h : StD K tu G1 o) (w : Wk G G1) : StD K tu G o := .mk fun {H0 F0 F H σ E} En p => h (En.weak w) p

/-! loops -/
def Goes (s : Out) (C : List Sl) : Prop := ∃ C', (s = .nx C' ∨ s = .ct C') ∧ Wk C' C
def Ends' (s o : Out) : Prop := (∃ d, s = .rt d ∧ o = .rt d) ∨ (∃ l, s = .ro l ∧ o = .ro l) ∨ ∃ C, s = .bk C ∧ o = .nx C
theorem st_for {wi : TI} {items : List D} (hi : ItD K wi G items) (C : Nat → List Sl) (h0 : C 0 = G) (T : Nat → List Sl) (ht : ∀ i d, items[i]? = some d → TgD K g (C i) d (T i)) (S : Nat → Out)
    (hb : ∀ i, i < items.length → (∀ j, j < i → Goes (S j) (C (j + 1))) → StD K tu (T i) (S i)) (hS : ∀ i, i < items.length → Goes (S i) (C (i + 1)) ∨ Ends' (S i) o)
    (hd : (∀ i, i < items.length → Goes (S i) (C (i + 1))) → o = .nx (C items.length)) : StD K (tFor wi g tu) G o := by
  refine ⟨?_⟩
  intro H0 F0 F H σ E En p
  refine hi En _ fun J F1 H1 E1 f1 g1 n1 wk => ?_
  obtain ⟨Gp, Y, w, hg, hy⟩ := wk.ex
  refine for_it w (fun i σ H => ∃ F', Cy.En K H0 F0 F' H σ (C i) ∧ Ex F1 F' ∧ ∀ j, j < i → Goes (S j) (C (j + 1))) ⟨F1, by rw [h0]; exact E1, Ex.refl _, fun j hj => absurd hj (Nat.not_lt_zero _)⟩
    (fun i σ H _ ⟨F', E', e', _⟩ => hg H (e'.trans E'.ef)) ?_ ?_
  · rintro i x σ2 H2 H3 hlt ⟨F', E', e', hp⟩ y
    obtain ⟨F2, d, k1, k2, k3, k4, hd2, r2⟩ := hy i H2 x H3 F' e' E'.ef y
    have E3 : Cy.En K H0 F0 F2 H3 σ2 (C i) := E'.grow k1 k2 k3 k4
    refine ht i d hd2 E3 r2 _ fun σ4 E4 => ?_
    refine hb i hlt hp E4 ?_
    rcases hS i hlt with hs | hs
    · have hnext : ∀ (σ : L2.St) (F'' H'' : Hp), Cy.En K H0 F0 F'' H'' σ (C (i + 1)) → Ex F2 F'' → ∃ F', Cy.En K H0 F0 F' H'' σ (C (i + 1)) ∧ Ex F1 F' ∧ ∀ j, j < i + 1 → Goes (S j) (C (j + 1)) := fun σ F'' H'' E'' f'' =>
        ⟨F'', E'', (e'.trans k1).trans f'', fun j hj => by
          by_cases hji : j < i
          · exact hp j hji
          · have ej : j = i := by omega
            rw [ej]
            exact hs⟩
      obtain ⟨C', hs | hs, hw⟩ := hs
      · rw [hs]
        exact fun σ F'' H'' E'' f'' => hnext σ F'' H'' (E''.weak hw) f''
      · rw [hs]
        exact fun σ F'' H'' E'' f'' => hnext σ F'' H'' (E''.weak hw) f''
    · rcases hs with ⟨d', hs, ho⟩ | ⟨l', hs, ho⟩ | ⟨C', hs, ho⟩
      · rw [hs]
        rw [ho] at p
        exact p
      · rw [hs]
        rw [ho] at p
        exact p
      · rw [hs]
        rw [ho] at p
        exact fun σ F'' H'' E'' f'' => p σ F'' H'' E'' ((((f1.trans e').trans k1).trans f''))
  · rintro σ2 H2 ⟨F', E', e', hp⟩
    have ho := hd hp
    rw [ho] at p
    exact p σ2 F' H2 E' (f1.trans e')

/-! comprehensions -/
def wipeG (G : List Sl) : List Nat → List Sl
  | [] => G
  | v :: vs => (wipeG G vs).set v .no
theorem En.setN {H0 F0 F H : Hp} {σ : L2.St} (E : Cy.En K H0 F0 F H σ G) (i : Nat) : Cy.En K H0 F0 F H (σ.set i none) (G.set i .no) where
  dat := fun j e h => by
    by_cases q : i = j
    · subst q
      by_cases hl : i < G.length
      · rw [List.getElem?_set_self hl] at h
        cases h
      · rw [List.getElem?_eq_none (by rw [List.length_set]; omega)] at h
        cases h
    · rw [List.getElem?_set_ne q] at h ⊢
      exact E.dat j e h
  own := fun j l' h => by
    by_cases q : i = j
    · subst q
      by_cases hl : i < G.length
      · rw [List.getElem?_set_self hl] at h
        cases h
      · rw [List.getElem?_eq_none (by rw [List.length_set]; omega)] at h
        cases h
    · rw [List.getElem?_set_ne q] at h ⊢
      exact E.own j l' h
  dis := fun a b la lb p hab h1 h2 h3 => by
    have na : i ≠ a := fun q => by
      subst q
      by_cases hl : i < G.length
      · rw [List.getElem?_set_self hl] at h1
        cases h1
      · rw [List.getElem?_eq_none (by rw [List.length_set]; omega)] at h1
        cases h1
    have nb : i ≠ b := fun q => by
      subst q
      by_cases hl : i < G.length
      · rw [List.getElem?_set_self hl] at h2
        cases h2
      · rw [List.getElem?_eq_none (by rw [List.length_set]; omega)] at h2
        cases h2
    rw [List.getElem?_set_ne na] at h1 h3
    rw [List.getElem?_set_ne nb] at h2 ⊢
    exact E.dis a b la lb p hab h1 h2 h3
  e0 := E.e0
  ef := E.ef
  e1 := E.e1
  nf := E.nf
  len := by rw [List.length_set, List.length_set, E.len]
theorem En.wipe {H0 F0 F H : Hp} {σ : L2.St} (E : Cy.En K H0 F0 F H σ G) : ∀ vs : List Nat, Cy.En K H0 F0 F H (L2.wipe σ vs) (wipeG G vs)
  | [] => E
  | v :: vs => (En.wipe E vs).setN v
/-- a target stores into these slots alone -/
def Keeps (g : TG) (vs : List Nat) : Prop := ∀ (x : V) (σ : L2.St) (H : Hp) (Q : L2.St → Hp → Prop), g x (L2.wipe σ vs) H Q → g x (L2.wipe σ vs) H fun σ2 H2 => L2.wipe σ2 vs = L2.wipe σ vs ∧ Q σ2 H2
theorem keeps1 {j : Nat} : Keeps (gName j) [j] := fun x σ H Q h => ⟨by show ((σ.set j none).set j (some x)).set j none = σ.set j none; rw [List.set_set, List.set_set], h⟩
theorem keeps2 {n i j : Nat} (hij : i ≠ j) : Keeps (gTup K n (gCons (gName i) (gCons (gName j) gNil))) [i, j] := fun x σ H Q h => by
  obtain ⟨a, xs, rfl, hs, hl, v, r, rfl, w, r', rfl, hr, q⟩ := h
  refine ⟨a, _, rfl, hs, hl, v, _, rfl, w, _, rfl, hr, ?_, q⟩
  show (((((σ.set j none).set i none).set i (some v)).set j (some w)).set j none).set i none = (σ.set j none).set i none
  rw [List.set_set, List.set_set, List.set_comm _ _ hij.symm, List.set_set, List.set_comm _ _ hij, List.set_set]
/-- which turns give, and what -/
def lcD (n : Nat) (f : Nat → Bool) (v : Nat → D) : List D := ((List.range n).filter f).map v
theorem lcD_yes {n : Nat} {f : Nat → Bool} {v : Nat → D} (h : f n = true) : lcD (n + 1) f v = lcD n f v ++ [v n] := by
  unfold lcD
  rw [List.range_succ, List.filter_append, List.map_append, List.filter_cons, if_pos h] <;> rfl
theorem lcD_no {n : Nat} {f : Nat → Bool} {v : Nat → D} (h : f n = false) : lcD (n + 1) f v = lcD n f v := by
  unfold lcD
  rw [List.range_succ, List.filter_append, List.map_append, List.filter_cons, if_neg (by rw [h]; decide)]
  show _ ++ [] = _
  rw [List.append_nil]
theorem lcD_len (n : Nat) (f : Nat → Bool) (v : Nat → D) : (lcD n f v).length ≤ n := by
  unfold lcD
  rw [List.length_map]
  have h := List.length_filter_le f (List.range n)
  rw [List.length_range] at h
  exact h
theorem o_lc {wi : TI} {items : List D} {vs : List Nat} (f : Nat → Bool) (v : Nat → D) (T : Nat → List Sl) (hk : Keeps g vs) (hi : ItD K wi G items) (hz : items.length ≤ 40000)
    (ht : ∀ i d, items[i]? = some d → TgD K g (wipeG G vs) d (T i)) (hf : ∀ i, i < items.length → EvTt K tt (T i) (f i)) (hv : ∀ i, i < items.length → f i = true → EvD K te (T i) (v i)) :
    EvO K (tLc wi g tt te vs) G (lcD items.length f v) := by
  refine ⟨?_⟩
  intro H0 F0 F H σ E Q q
  refine hi E _ fun J F1 H1 E1 f1 g1 n1 wk => ?_
  obtain ⟨Gp, Y, w, hg, hy⟩ := wk.ex
  intro Dl hD
  refine lc_it w (fun i H' => ∃ F' acc, Cy.En K H0 F0 F' H' σ G ∧ Ex F1 F' ∧ Ex H1 H' ∧ Nw F1 F' H1 ∧ F' Dl = none ∧ H' Dl = some (.lst acc) ∧ RpA K F' acc (lcD i f v)) ?_ (fun i H' _ ⟨F', acc, E', e', _⟩ => hg H' (e'.trans E'.ef)) ?_ ?_
  · exact ⟨F1, [], E1.grow (Ex.refl _) (Ex.new hD) (E1.ef.trans (Ex.new hD)) (Nw.refl _ _), Ex.refl _, Ex.new hD, Nw.refl _ _, ex_none E1.ef hD, upd_same, .nil⟩
  · rintro i x H2 H3 hlt ⟨F', acc, E', e', gg, nn, hF, hH, hr⟩ y
    obtain ⟨F2, d, k1, k2, k3, k4, hd2, r2⟩ := hy i H2 x H3 F' e' E'.ef y
    have E3 : Cy.En K H0 F0 F2 H3 σ G := E'.grow k1 k2 k3 k4
    refine hk x σ H3 _ ?_
    refine ht i d hd2 (E3.wipe vs) r2 _ fun σ4 E4 => ?_
    have nD : Dl ≠ Dl ∨ True := .inr trivial
    have hH3 : H3 Dl = some (.lst acc) := k2 _ _ hH
    have hF2 : F2 Dl = none := by
      cases z : F2 Dl with
      | none => rfl
      | some o =>
        rcases k4 Dl o z with y | y
        · rw [hF] at y
          cases y
        · rw [hH] at y
          cases y
    have n2 : Nw F1 F2 H1 := nn.trans k4 gg
    refine hf i hlt E4 _ fun F5 H5 E5 f5 g5 n5 => ?_
    have hF5 : F5 Dl = none := by
      cases z : F5 Dl with
      | none => rfl
      | some o =>
        rcases n5 Dl o z with y | y
        · rw [hF2] at y
          cases y
        · rw [hH3] at y
          cases y
    have E5' : Cy.En K H0 F0 F5 H5 σ G := E3.grow f5 g5 E5.ef n5
    have n5' : Nw F1 F5 H1 := n2.trans n5 (gg.trans k2)
    cases hfi : f i with
    | true =>
      show te σ4 H5 _
      refine hv i hlt hfi E5 _ fun v6 F6 H6 E6 f6 g6 n6 r6 => ?_
      have hH6 : H6 Dl = some (.lst acc) := g6 _ _ (g5 _ _ hH3)
      have hF6 : F6 Dl = none := by
        cases z : F6 Dl with
        | none => rfl
        | some o =>
          rcases n6 Dl o z with y | y
          · rw [hF5] at y
            cases y
          · rw [g5 _ _ hH3] at y
            cases y
      have hlen : acc.length ≤ i := by
        rw [hr.length]
        exact lcD_len i f v
      have n6' : Nw F1 F6 H1 := n5'.trans n6 ((gg.trans k2).trans g5)
      refine ⟨acc, hH6, sz_lt (by omega), F6, acc ++ [v6], ?_, ((e'.trans k1).trans f5).trans f6, ?_, n6', hF6, upd_same, ?_⟩
      · have E6' : Cy.En K H0 F0 F6 H6 σ G := E5'.grow f6 g6 E6.ef n6
        refine ⟨E6'.dat, fun j l h => ?_, E6'.dis, fun a o h => ?_, fun a o h => ?_, E6'.e1, E6'.nf, E6'.len⟩
        · obtain ⟨p, xs, a1, b1, c1, d1, r1⟩ := E1.own j l h
          obtain ⟨p2, xs2, a2, b2, c2, d2, r2⟩ := E6'.own j l h
          rw [a1] at a2
          cases a2
          have hne : p ≠ Dl := ne_of_none d1 hD
          exact ⟨p, xs2, a1, b2, c2, by rw [upd_ne hne]; exact d2, r2⟩
        · have hne : a ≠ Dl := fun z => by
            subst z
            rw [ex_none E1.e0 hD] at h
            cases h
          rw [upd_ne hne]
          exact E6'.e0 a o h
        · have hne : a ≠ Dl := fun z => by
            subst z
            rw [hF6] at h
            cases h
          rw [upd_ne hne]
          exact E6'.ef a o h
      · exact Ex.mut (((gg.trans k2).trans g5).trans g6) hD
      · rw [lcD_yes hfi]
        exact (hr.mono ((k1.trans f5).trans f6)).app (.cons r6 .nil)
    | false =>
      refine ⟨F5, acc, E5', (e'.trans k1).trans f5, (gg.trans k2).trans g5, n5', hF5, g5 _ _ hH3, ?_⟩
      rw [lcD_no hfi]
      exact hr.mono (k1.trans f5)
  · rintro H2 ⟨F', acc, E', e', gg, nn, hF, hH, hr⟩
    exact q Dl acc F' H2 E' (f1.trans e') (g1.trans gg) (n1.trans nn g1) (ex_none g1 hD) hF hH hr
end
end Cy
namespace Cy
open PySem L2 Evl
theorem spD_len {K : PySem.W.Frag} {R : List D → D → Prop} {vs : List V} {H : Hp} {Q : VK} {E : XK} {n : Nat} (hR : ∀ ds d, R ds d → ds.length = n) (h : spD K R vs H Q E) : vs.length = n := by
  obtain ⟨F, ds, d, e, r, h1, _⟩ := h
  rw [r.length]
  exact hR ds d h1
theorem spO_len {K : PySem.W.Frag} {R : List D → List D → Prop} {vs : List V} {H : Hp} {Q : VK} {E : XK} {n : Nat} (hR : ∀ ds d, R ds d → ds.length = n) (h : spO K R vs H Q E) : vs.length = n := by
  obtain ⟨F, ds, d, e, r, h1, _⟩ := h
  rw [r.length]
  exact hR ds d h1
/-- the law's end -/
theorem law_endD {K : PySem.W.Frag} {R : List D → D → Prop} {H : Hp} {a : Addr} {ns : List Int} (hS : SqL K H a (ns.map V.int)) (hR : R [.scr ns] (.bl true)) : spD K R [.ref a] H (fun v _ => v = .bl true) fun _ _ _ => False :=
  ⟨H, [.scr ns], .bl true, Ex.refl H, .cons (.scr hS) .nil, hR, fun v F' H' ro r => by
    cases r
    rfl⟩
end Cy

set_option Elab.async false
set_option linter.all false
set_option maxRecDepth 100000
set_option maxHeartbeats 2000000
namespace Cy
open PySem L2 Evl

/-! operators, whatever they are of -/
def orR (r r' : R2) : R2 := fun x y H Q => r x y H Q ∨ r' x y H Q
def orC (r r' : List V → Hp → VK → Prop) : List V → Hp → VK → Prop := fun xs H Q => r xs H Q ∨ r' xs H Q
def rAddS : R2 := fun x y H Q => ∃ i j, x = .str i ∧ y = .str j ∧ i.length + j.length ≤ sizeLine ∧ Q (.str (i ++ j)) H
def rLtS : R2 := fun x y H Q => ∃ i j, x = .str i ∧ y = .str j ∧ Q (.bl (decide (i.cps.toList < j.cps.toList))) H
def rLeS : R2 := fun x y H Q => ∃ i j, x = .str i ∧ y = .str j ∧ Q (.bl (!decide (j.cps.toList < i.cps.toList))) H
def rInC : R2 := fun x y H Q => ∃ (c : Nat) (z : Str), x = .str ⟨#[c]⟩ ∧ y = .str z ∧ Q (.bl (decide (c ∈ z.cps.toList))) H
def rNiC : R2 := fun x y H Q => ∃ (c : Nat) (z : Str), x = .str ⟨#[c]⟩ ∧ y = .str z ∧ Q (.bl (!decide (c ∈ z.cps.toList))) H
def rIsNn : R2 := fun x y H Q => y = .non ∧ Q (.bl (decide (x = .non))) H
def rNiNn : R2 := fun x y H Q => y = .non ∧ Q (.bl (!decide (x = .non))) H
def gAdd (K : PySem.W.Frag) : R2 := orR (rI0 fun i j => .int (i + j)) (orR rAddS rCat)
def gSub : R2 := rI0 fun i j => .int (i - j)
def gMul : R2 := orR (rI CMul fun i j => .int (i * j)) rRep
def gFdv : R2 := rI CDivW fun i j => .int (i / j)
def gMod : R2 := rI (fun _ j => 0 < j) fun i j => .int (i % j)
def gPow : R2 := rI CPow fun i j => .int (i ^ j.toNat)
def gLt : R2 := orR (rI0 fun i j => .bl (decide (i < j))) rLtS
def gLe : R2 := orR (rI0 fun i j => .bl (decide (i ≤ j))) rLeS
def gGt : R2 := rI0 fun i j => .bl (decide (j < i))
def gGe : R2 := rI0 fun i j => .bl (decide (j ≤ i))
def gEq (K : PySem.W.Frag) : R2 := orR rEq (rEqD K)
def gNe (K : PySem.W.Frag) : R2 := orR rNe (rNeD K)
def gIn (K : PySem.W.Frag) : R2 := orR rInC (rIn K false)
def gNi (K : PySem.W.Frag) : R2 := orR rNiC (rIn K true)
def gIs : R2 := orR rIsNn rIsB
def gIn2 : R2 := orR rNiNn rNotB
def gIx (K : PySem.W.Frag) : R2 := rIx K
section
variable {X : Cx}
theorem op_gAdd : OpR X (binaryOp .Add) (gAdd X.K) := op_add.or (op_add_str.or op_cat)
theorem op_gSub : OpR X (binaryOp .Sub) gSub := op_sub
theorem op_gMul : OpR X (binaryOp .Mult) gMul := op_mul.or op_rep
theorem op_gFdv : OpR X (binaryOp .FloorDiv) gFdv := op_fdivW
theorem op_gMod : OpR X (binaryOp .Mod) gMod := op_mod
theorem op_gPow : OpR X (binaryOp .Pow) gPow := op_pow
theorem op_gLt : OpR X (compareOp .Lt) gLt := op_lt.or op_lt_str
theorem op_gLe : OpR X (compareOp .LtE) gLe := op_le.or op_le_str
theorem op_gGt : OpR X (compareOp .Gt) gGt := op_gt
theorem op_gGe : OpR X (compareOp .GtE) gGe := op_ge
theorem op_gEq (hu : X.A.units + 64 < cLine) : OpR X (compareOp .Eq) (gEq X.K) := op_eq.or (op_eqD hu)
theorem op_gNe (hu : X.A.units + 64 < cLine) : OpR X (compareOp .NotEq) (gNe X.K) := op_ne.or (op_neD hu)
theorem op_gIn : OpR X (compareOp .In) (gIn X.K) := op_in_sign.or op_in_seq
theorem op_gNi : OpR X (compareOp .NotIn) (gNi X.K) := op_notIn_sign.or op_notIn_seq
theorem op_gIs : OpR X (compareOp .Is) gIs := op_isN.or op_isBl
theorem op_gIsn : OpR X (compareOp .IsNot) gIn2 := op_notN.or op_notBl
def rMax2 : List V → Hp → VK → Prop := fun xs H Q => ∃ i j, xs = [.int i, .int j] ∧ Q (.int (if j > i then j else i)) H
def rMin2 : List V → Hp → VK → Prop := fun xs H Q => ∃ i j, xs = [.int i, .int j] ∧ Q (.int (if j < i then j else i)) H
def rAbs : List V → Hp → VK → Prop := fun xs H Q => ∃ i, xs = [.int i] ∧ Q (.int (if i < 0 then -i else i)) H
def rLen (K : PySem.W.Frag) : List V → Hp → VK → Prop := fun xs H Q => ∃ x n, xs = [x] ∧ LenV K x H n ∧ Q (.int n) H
def rInt1 : List V → Hp → VK → Prop := fun xs H Q => (∃ i, xs = [.int i] ∧ Q (.int i) H) ∨ ∃ k, xs = [.bl k] ∧ Q (.int (if k then 1 else 0)) H
def rIntS : List V → Hp → VK → Prop := fun xs H Q => ∃ a n, xs = [.str a] ∧ PySem.intText? a = some n ∧ a.length ≤ 640 ∧ Q (.int n) H
def rStrI : List V → Hp → VK → Prop := fun xs H Q => ∃ i, xs = [.int i] ∧ i.natAbs.log2 < 1920 ∧ Q (.str (toString i)) H
def rStrS : List V → Hp → VK → Prop := fun xs H Q => ∃ a, xs = [.str a] ∧ Q (.str a) H
def rListOf (K : PySem.W.Frag) : List V → Hp → VK → Prop := fun xs H Q => ∃ p ys, xs = [.ref p] ∧ (SqL K H p ys ∨ SqT K H p ys) ∧ ∀ l, H l = none → Q (.ref l) (upd H l (.lst ys))
def rReprI : List V → Hp → VK → Prop := fun xs H Q => ∃ i, xs = [.int i] ∧ i.natAbs.log2 < 1920 ∧ Q (.str (toString i)) H
def rReprB : List V → Hp → VK → Prop := fun xs H Q => ∃ b : Bool, xs = [.bl b] ∧ Q (.str (if b then "True" else "False")) H
def rReprN : List V → Hp → VK → Prop := fun xs H Q => xs = [.non] ∧ Q (.str "None") H
def gMax (K : PySem.W.Frag) := orC rMax2 (rMax K)
def gMin (K : PySem.W.Frag) := orC rMin2 (rMin K)
def gInt := orC rInt1 rIntS
def gStr := orC rStrI rStrS
def gRepr := orC rReprI (orC rReprB rReprN)
theorem call_gMax (hc : X.calm = true) : CallR X (.builtin "max") (gMax X.K) := (call_max2 hc).or (cr_max hc)
theorem call_gMin (hc : X.calm = true) : CallR X (.builtin "min") (gMin X.K) := (call_min2 hc).or (cr_min hc)
theorem call_gAbs : CallR X (.builtin "abs") rAbs := call_abs
theorem call_gLen : CallR X (.builtin "len") (rLen X.K) := call_len
theorem call_gInt : CallR X (.type "int") gInt := call_int1.or call_int_str
theorem call_gStr : CallR X (.type "str") gStr := call_str_int.or SkE.call_str_str
theorem call_gList : CallR X (.type "list") (rListOf X.K) := call_list_of
theorem call_reprB : CallR X (.builtin "repr") rReprB := by
  intro pins s σ H xs us Q I r h
  obtain ⟨i, rfl, q⟩ := h
  obtain ⟨u, rfl, rfl⟩ := vals1 r
  exact PySem.P.repr_of_bool ⟨.str _, H, I.tok _, ⟨_, rfl⟩, q⟩
theorem call_reprN : CallR X (.builtin "repr") rReprN := by
  intro pins s σ H xs us Q I r h
  obtain ⟨rfl, q⟩ := h
  obtain ⟨u, rfl, rfl⟩ := vals1 r
  exact PySem.P.repr_of_none ⟨.str _, H, I.tok _, ⟨_, rfl⟩, q⟩
theorem call_gRepr : CallR X (.builtin "repr") gRepr := SkE.call_repr_int.or (call_reprB.or call_reprN)
end
def gSl (K : PySem.W.Frag) : V → Option Int → Option Int → Hp → VK → Prop := fun x lo hi H Q => rSlL K x lo hi H Q ∨ rSlS x lo hi H Q
theorem sl_gSl {X : Cx} : SlR X (gSl X.K) := sl_list.or sl_str

/-! what they give of data -/
def kindD : D → String
  | .non => "NoneType"
  | .bl _ => "bool"
  | .int _ => "int"
  | .str _ => "str"
  | .lst _ => "list"
  | .tup _ => "tuple"
  | .dic _ => "dict"
  | .obj _ _ => "object"
  | .scr _ => "list"
def noObj : D → Bool
  | .obj _ _ => false
  | _ => true
section
variable {K : PySem.W.Frag} {G : List Sl} {ta tb te : TE} {d : D} {l m : List D}
theorem op2_v {r : R2} {a b c : D} (h : ∀ {F H : Hp} {x y : V}, Ex F H → Rp K F x a → Rp K F y b → ∃ z, Rp K F z c ∧ ∀ Q : VK, Q z H → r x y H Q) : Op2 K r a b c := .mk fun {F H x y} e r1 r2 Q q => by
  obtain ⟨z, h1, h2⟩ := h e r1 r2
  exact h2 Q (q z F H (Ex.refl F) e (Ex.refl H) (Nw.refl F H) h1)
theorem op1_v {r : List V → Hp → VK → Prop} {ds : List D} {c : D} (h : ∀ {F H : Hp} {vs : List V}, Ex F H → RpA K F vs ds → ∃ z, Rp K F z c ∧ ∀ Q : VK, Q z H → r vs H Q) : OpN K r ds c := .mk fun {F H vs} e r1 Q q => by
  obtain ⟨z, h1, h2⟩ := h e r1
  exact h2 Q (q z F H (Ex.refl F) e (Ex.refl H) (Nw.refl F H) h1)
theorem rp_int {F : Hp} {v : V} {i : Int} (h : Rp K F v (.int i)) : v = .int i := by
  cases h
  rfl
theorem rp_str {F : Hp} {v : V} {i : Str} (h : Rp K F v (.str i)) : v = .str i := by
  cases h
  rfl
theorem rp_bl {F : Hp} {v : V} {i : Bool} (h : Rp K F v (.bl i)) : v = .bl i := by
  cases h
  rfl
theorem rp_non {F : Hp} {v : V} (h : Rp K F v .non) : v = .non := by
  cases h
  rfl
theorem rpa1 {F : Hp} {vs : List V} {a : D} (h : RpA K F vs [a]) : ∃ v, vs = [v] ∧ Rp K F v a := by
  cases h with
  | cons r t =>
    cases t
    exact ⟨_, rfl, r⟩
theorem rpa2 {F : Hp} {vs : List V} {a b : D} (h : RpA K F vs [a, b]) : ∃ v w, vs = [v, w] ∧ Rp K F v a ∧ Rp K F w b := by
  cases h with
  | cons r t =>
    cases t with
    | cons r2 t =>
      cases t
      exact ⟨_, _, rfl, r, r2⟩
theorem d_ii {g : Int → Int → V} {c : Int → Int → D} (hg : ∀ F i j, Rp K F (g i j) (c i j)) (i j : Int) : Op2 K (rI0 g) (.int i) (.int j) (c i j) := op2_v fun {F H x y} e r1 r2 => ⟨g i j, hg F i j, fun Q q => ⟨i, j, rp_int r1, rp_int r2, q⟩⟩
theorem d_iiC {C : Int → Int → Prop} {g : Int → Int → V} {c : Int → Int → D} (hg : ∀ F i j, Rp K F (g i j) (c i j)) {i j : Int} (hc : C i j) : Op2 K (rI C g) (.int i) (.int j) (c i j) := op2_v fun {F H x y} e r1 r2 => ⟨g i j, hg F i j, fun Q q => ⟨i, j, rp_int r1, rp_int r2, hc, q⟩⟩
theorem op2_l {r r' : R2} {a b c : D} (h : Op2 K r a b c) : Op2 K (orR r r') a b c := .mk fun {F H x y} e r1 r2 Q q => Or.inl (h e r1 r2 Q q)
theorem op2_r {r r' : R2} {a b c : D} (h : Op2 K r' a b c) : Op2 K (orR r r') a b c := .mk fun {F H x y} e r1 r2 Q q => Or.inr (h e r1 r2 Q q)
theorem opn_l {r r' : List V → Hp → VK → Prop} {ds : List D} {c : D} (h : OpN K r ds c) : OpN K (orC r r') ds c := .mk fun {F H vs} e r1 Q q => Or.inl (h e r1 Q q)
theorem opn_r {r r' : List V → Hp → VK → Prop} {ds : List D} {c : D} (h : OpN K r' ds c) : OpN K (orC r r') ds c := .mk fun {F H vs} e r1 Q q => Or.inr (h e r1 Q q)
theorem d_addI {i j : Int} : Op2 K (gAdd K) (.int i) (.int j) (.int (i + j)) := op2_l (d_ii (c := fun i j => .int (i + j)) (fun _ _ _ => .int _) i j)
theorem d_subI {i j : Int} : Op2 K gSub (.int i) (.int j) (.int (i - j)) := d_ii (c := fun i j => .int (i - j)) (fun _ _ _ => .int _) i j
theorem d_mulI {i j : Int} (h : CMul i j) : Op2 K gMul (.int i) (.int j) (.int (i * j)) := op2_l (d_iiC (c := fun i j => .int (i * j)) (fun _ _ _ => .int _) h)
theorem d_fdv {i j : Int} (h : 0 < j) (h2 : j < 18446744073709551616) : Op2 K gFdv (.int i) (.int j) (.int (i / j)) := d_iiC (c := fun i j => .int (i / j)) (fun _ _ _ => .int _) (wide_div (b := 64) h (by omega) (by decide) (by decide))
theorem d_mod {i j : Int} (h : 0 < j) : Op2 K gMod (.int i) (.int j) (.int (i % j)) := d_iiC (C := fun _ j => 0 < j) (c := fun i j => .int (i % j)) (fun _ _ _ => .int _) (i := i) (j := j) h
theorem d_pow {i j : Int} (h : CPow i j) : Op2 K gPow (.int i) (.int j) (.int (i ^ j.toNat)) := d_iiC (c := fun i j => .int (i ^ j.toNat)) (fun _ _ _ => .int _) h
theorem d_pow9 : Op2 K gPow (.int 10) (.int 9) (.int 1000000000) := by
  have h := d_pow (K := K) (i := 10) (j := 9) ⟨by decide, by decide, by decide⟩
  exact h
theorem d_pow12 : Op2 K gPow (.int 10) (.int 12) (.int 1000000000000) := by
  have h := d_pow (K := K) (i := 10) (j := 12) ⟨by decide, by decide, by decide⟩
  exact h
theorem d_pow6 : Op2 K gPow (.int 10) (.int 6) (.int 1000000) := by
  have h := d_pow (K := K) (i := 10) (j := 6) ⟨by decide, by decide, by decide⟩
  exact h
theorem d_ltI {i j : Int} : Op2 K gLt (.int i) (.int j) (.bl (decide (i < j))) := op2_l (d_ii (c := fun i j => .bl (decide (i < j))) (fun _ _ _ => .bl _) i j)
theorem d_leI {i j : Int} : Op2 K gLe (.int i) (.int j) (.bl (decide (i ≤ j))) := op2_l (d_ii (c := fun i j => .bl (decide (i ≤ j))) (fun _ _ _ => .bl _) i j)
theorem d_gtI {i j : Int} : Op2 K gGt (.int i) (.int j) (.bl (decide (j < i))) := d_ii (c := fun i j => .bl (decide (j < i))) (fun _ _ _ => .bl _) i j
theorem d_geI {i j : Int} : Op2 K gGe (.int i) (.int j) (.bl (decide (j ≤ i))) := d_ii (c := fun i j => .bl (decide (j ≤ i))) (fun _ _ _ => .bl _) i j
theorem d_addS {i j : Str} (h : i.length + j.length ≤ 100000) : Op2 K (gAdd K) (.str i) (.str j) (.str (i ++ j)) := op2_r (op2_l (op2_v fun {F H x y} e r1 r2 => ⟨.str (i ++ j), .str _, fun Q q => ⟨i, j, rp_str r1, rp_str r2, sz_of h, q⟩⟩))
theorem d_leS {i j : Str} : Op2 K gLe (.str i) (.str j) (.bl (!decide (j.cps.toList < i.cps.toList))) := op2_r (op2_v fun {F H x y} e r1 r2 => ⟨.bl _, .bl _, fun Q q => ⟨i, j, rp_str r1, rp_str r2, q⟩⟩)
theorem d_ltS {i j : Str} : Op2 K gLt (.str i) (.str j) (.bl (decide (i.cps.toList < j.cps.toList))) := op2_r (op2_v fun {F H x y} e r1 r2 => ⟨.bl _, .bl _, fun Q q => ⟨i, j, rp_str r1, rp_str r2, q⟩⟩)
theorem d_inC {c : Nat} {z : Str} : Op2 K (gIn K) (.str ⟨#[c]⟩) (.str z) (.bl (decide (c ∈ z.cps.toList))) := op2_l (op2_v fun {F H x y} e r1 r2 => ⟨.bl _, .bl _, fun Q q => ⟨c, z, rp_str r1, rp_str r2, q⟩⟩)
theorem d_niC {c : Nat} {z : Str} : Op2 K (gNi K) (.str ⟨#[c]⟩) (.str z) (.bl (!decide (c ∈ z.cps.toList))) := op2_l (op2_v fun {F H x y} e r1 r2 => ⟨.bl _, .bl _, fun Q q => ⟨c, z, rp_str r1, rp_str r2, q⟩⟩)
theorem d_catL {a b : List D} (h : a.length + b.length ≤ 100000) : Op2O K (gAdd K) (.lst a) (.lst b) (a ++ b) := .mk fun {F H x y} e r1 r2 Q q => by
  cases r1 with
  | lst h1 s1 =>
    cases r2 with
    | lst h2 s2 => exact Or.inr (Or.inr ⟨_, _, _, _, rfl, rfl, e _ _ h1, e _ _ h2, sz_of (by rw [s1.length, s2.length]; exact h), fun p hp => q p _ _ (Ex.new hp) hp upd_same (s1.app s2)⟩)
/-! equality -/
mutual
def toP : D → PyData
  | .non => .none
  | .bl b => .bool b
  | .int i => .int i
  | .str s => .str s
  | .lst xs => .list (toPs xs)
  | .tup xs => .tuple (toPs xs)
  | .dic _ => .none
  | .obj _ _ => .none
  | .scr ns => .list (ns.map PyData.int)
def toPs : List D → List PyData
  | [] => []
  | x :: xs => toP x :: toPs xs
end
mutual
def plain : D → Bool
  | .lst xs => plains xs
  | .tup xs => plains xs
  | .dic _ => false
  | .obj _ _ => false
  | _ => true
def plains : List D → Bool
  | [] => true
  | x :: xs => plain x && plains xs
end
theorem dp_ints {F : Hp} : ∀ ns : List Int, DpAll K F (ns.map V.int) (ns.map PyData.int)
  | [] => .nil
  | n :: ns => .cons (.int n) (dp_ints ns)
mutual
theorem rp_dp {F : Hp} : ∀ {v : V} {d : D}, Rp K F v d → plain d = true → Dp K F v (toP d)
  | _, _, .non, _ => by unfold toP; exact .non
  | _, _, .bl b, _ => by unfold toP; exact .bl b
  | _, _, .int i, _ => by unfold toP; exact .int i
  | _, _, .str x, _ => by unfold toP; exact .str x
  | _, .lst ds, .lst h r, p => by
    unfold toP
    exact .lst (sq_of h) (rpa_dp r (by unfold plain at p; exact p))
  | _, .tup ds, .tup h r, p => by
    unfold toP
    exact .tup (st_of h) (rpa_dp r (by unfold plain at p; exact p))
  | _, .dic _, .dic _ _ _, p => by unfold plain at p; cases p
  | _, .obj _ _, .obj _ _ _, p => by unfold plain at p; cases p
  | _, .scr ns, .scr h, _ => by
    unfold toP
    exact .lst h (dp_ints ns)
theorem rpa_dp {F : Hp} : ∀ {vs : List V} {ds : List D}, RpA K F vs ds → plains ds = true → DpAll K F vs (toPs ds)
  | _, _, .nil, _ => by unfold toPs; exact .nil
  | _, d :: ds, .cons r t, p => by
    unfold plains at p
    rw [Bool.and_eq_true] at p
    unfold toPs
    exact .cons (rp_dp r p.1) (rpa_dp t p.2)
end
def eqD (a b : D) : Bool := PyData.eqv (toP a) (toP b)
def okEq (a : D) : Bool := plain a && SeqAt.shaped (toP a)
theorem d_eqD {a b : D} (ha : okEq a = true) (hb : okEq b = true) : Op2 K (gEq K) a b (.bl (eqD a b)) := op2_r (op2_v fun {F H x y} e r1 r2 => by
  unfold okEq at ha hb
  rw [Bool.and_eq_true] at ha hb
  exact ⟨.bl _, .bl _, fun Q q => ⟨toP a, toP b, rp_dp (r1.mono e) ha.1, rp_dp (r2.mono e) hb.1, ha.2, hb.2, q⟩⟩)
theorem d_neD {a b : D} (ha : okEq a = true) (hb : okEq b = true) : Op2 K (gNe K) a b (.bl (!eqD a b)) := op2_r (op2_v fun {F H x y} e r1 r2 => by
  unfold okEq at ha hb
  rw [Bool.and_eq_true] at ha hb
  exact ⟨.bl _, .bl _, fun Q q => ⟨toP a, toP b, rp_dp (r1.mono e) ha.1, rp_dp (r2.mono e) hb.1, ha.2, hb.2, q⟩⟩)
theorem d_eqI {i j : Int} : Op2 K (gEq K) (.int i) (.int j) (.bl (decide (i = j))) := op2_l (op2_v fun {F H x y} e r1 r2 => ⟨.bl (decide (i = j)), .bl _, fun Q q => by
  rw [rp_int r1, rp_int r2]
  refine ⟨rfl, ?_⟩
  have h : decide (V.int i = V.int j) = decide (i = j) := by
    by_cases z : i = j
    · rw [decide_eq_true z, decide_eq_true (by rw [z])]
    · rw [decide_eq_false z, decide_eq_false (fun q => z (V.int.inj q))]
  rw [h]
  exact q⟩)
theorem d_neI {i j : Int} : Op2 K (gNe K) (.int i) (.int j) (.bl (!decide (i = j))) := op2_l (op2_v fun {F H x y} e r1 r2 => ⟨.bl (!decide (i = j)), .bl _, fun Q q => by
  rw [rp_int r1, rp_int r2]
  refine ⟨rfl, ?_⟩
  have h : decide (V.int i = V.int j) = decide (i = j) := by
    by_cases z : i = j
    · rw [decide_eq_true z, decide_eq_true (by rw [z])]
    · rw [decide_eq_false z, decide_eq_false (fun q => z (V.int.inj q))]
  rw [h]
  exact q⟩)
theorem dec_vstr {i j : Str} : decide (V.str i = V.str j) = decide (i = j) := by
  by_cases z : i = j
  · rw [decide_eq_true z, decide_eq_true (by rw [z])]
  · rw [decide_eq_false z, decide_eq_false (fun q => z (V.str.inj q))]
theorem d_eqS {i j : Str} : Op2 K (gEq K) (.str i) (.str j) (.bl (decide (i = j))) := op2_l (op2_v fun {F H x y} e r1 r2 => ⟨.bl (decide (i = j)), .bl _, fun Q q => by
  rw [rp_str r1, rp_str r2]
  refine ⟨rfl, ?_⟩
  rw [dec_vstr]
  exact q⟩)
theorem d_neS {i j : Str} : Op2 K (gNe K) (.str i) (.str j) (.bl (!decide (i = j))) := op2_l (op2_v fun {F H x y} e r1 r2 => ⟨.bl (!decide (i = j)), .bl _, fun Q q => by
  rw [rp_str r1, rp_str r2]
  refine ⟨rfl, ?_⟩
  rw [dec_vstr]
  exact q⟩)
def isNon : D → Bool
  | .non => true
  | _ => false
theorem rp_isN {F : Hp} {v : V} {d : D} (h : Rp K F v d) : decide (v = .non) = isNon d := by
  cases h <;> rfl
theorem d_isN {d : D} : Op2 K gIs d .non (.bl (isNon d)) := op2_l (op2_v fun {F H x y} e r1 r2 => ⟨.bl (isNon d), .bl _, fun Q q => ⟨rp_non r2, by rw [rp_isN r1]; exact q⟩⟩)
theorem d_niN {d : D} : Op2 K gIn2 d .non (.bl (!isNon d)) := op2_l (op2_v fun {F H x y} e r1 r2 => ⟨.bl (!isNon d), .bl _, fun Q q => ⟨rp_non r2, by rw [rp_isN r1]; exact q⟩⟩)
theorem d_isB {a b : Bool} : Op2 K gIs (.bl a) (.bl b) (.bl (decide (a = b))) := op2_r (op2_v fun {F H x y} e r1 r2 => ⟨_, .bl _, fun Q q => ⟨a, b, rp_bl r1, rp_bl r2, q⟩⟩)
/-! items -/
theorem atI_rp {F : Hp} {vs : List V} {ds : List D} {i : Int} {d : D} (r : RpA K F vs ds) (h : atI ds i = some d) : ∃ v, atI vs i = some v ∧ Rp K F v d := by
  unfold atI at h ⊢
  rw [r.length]
  cases q : ixN ds.length i with
  | none =>
    rw [q] at h
    cases h
  | some j =>
    rw [q] at h
    exact r.get h
theorem d_ixL {i : Int} (h : atI l i = some d) : Op2 K (gIx K) (.lst l) (.int i) d := op2_v fun {F H x y} e r1 r2 => by
  cases r1 with
  | lst h1 s1 =>
    obtain ⟨v, h3, h4⟩ := atI_rp s1 h
    exact ⟨v, h4, fun Q q => Or.inl ⟨_, _, i, v, rfl, rp_int r2, sq_of (e _ _ h1), h3, q⟩⟩
theorem d_ixT {i : Int} (h : atI l i = some d) : Op2 K (gIx K) (.tup l) (.int i) d := op2_v fun {F H x y} e r1 r2 => by
  cases r1 with
  | tup h1 s1 =>
    obtain ⟨v, h3, h4⟩ := atI_rp s1 h
    exact ⟨v, h4, fun Q q => Or.inr (Or.inl ⟨_, _, i, v, rfl, rp_int r2, st_of (e _ _ h1), h3, q⟩)⟩
theorem d_ixR {ns : List Int} {i n : Int} (h : atI ns i = some n) : Op2 K (gIx K) (.scr ns) (.int i) (.int n) := op2_v fun {F H x y} e r1 r2 => by
  cases r1 with
  | scr h1 =>
    refine ⟨.int n, .int n, fun Q q => Or.inl ⟨_, _, i, .int n, rfl, rp_int r2, ex_l e h1, ?_, q⟩⟩
    unfold atI at h ⊢
    rw [List.length_map]
    cases z : ixN ns.length i with
    | none =>
      rw [z] at h
      cases h
    | some j =>
      rw [z] at h
      show (ns.map V.int)[j]? = _
      have h' : ns[j]? = some n := h
      rw [List.getElem?_map, h']
      rfl
theorem d_ixS {z : Str} {i : Int} {c : Nat} (hz : z.length ≤ 100000) (h : atI z.cps.toList i = some c) : Op2 K (gIx K) (.str z) (.int i) (.str ⟨#[c]⟩) := op2_v fun {F H x y} e r1 r2 => by
  refine ⟨.str ⟨#[c]⟩, .str _, fun Q q => Or.inr (Or.inr ?_)⟩
  exact ⟨z, i, c, rp_str r1, rp_int r2, sz_of hz, h, q⟩
theorem atI_getD {α : Type} {xs : List α} {i : Int} (e : α) (h0 : 0 ≤ i) (h1 : i < (xs.length : Int)) : atI xs i = some (xs.getD i.toNat e) := by
  obtain ⟨j, rfl⟩ : ∃ j : Nat, i = (j : Int) := ⟨i.toNat, by omega⟩
  refine atI_nat ?_
  rw [Int.toNat_natCast, List.getD_eq_getElem?_getD, List.getElem?_eq_getElem (by omega)]
  rfl
theorem d_ixLn {i : Int} (h0 : 0 ≤ i) (h1 : i < (l.length : Int)) : Op2 K (gIx K) (.lst l) (.int i) (l.getD i.toNat .non) := d_ixL (atI_getD _ h0 h1)
theorem d_ixTn {i : Int} (h0 : 0 ≤ i) (h1 : i < (l.length : Int)) : Op2 K (gIx K) (.tup l) (.int i) (l.getD i.toNat .non) := d_ixT (atI_getD _ h0 h1)
theorem d_ixRn {ns : List Int} {i : Int} (h0 : 0 ≤ i) (h1 : i < (ns.length : Int)) : Op2 K (gIx K) (.scr ns) (.int i) (.int (ns.getD i.toNat 0)) := d_ixR (atI_getD _ h0 h1)
theorem d_ixSn {z : Str} {i : Int} (hz : z.length ≤ 100000) (h0 : 0 ≤ i) (h1 : i < (z.cps.toList.length : Int)) : Op2 K (gIx K) (.str z) (.int i) (.str ⟨#[z.cps.toList.getD i.toNat 0]⟩) := d_ixS hz (atI_getD _ h0 h1)
theorem getD_mapD {α : Type} (f : α → D) (e : α) : ∀ (ns : List α) (i : Nat), i < ns.length → (ns.map f).getD i .non = f (ns.getD i e)
  | [], i, h => by simp at h
  | n :: ns, 0, _ => rfl
  | n :: ns, i + 1, h => by
    show (ns.map f).getD i .non = f (ns.getD i e)
    exact getD_mapD f e ns i (by simpa using h)
theorem d_ixI {ns : List Int} {i : Int} (h0 : 0 ≤ i) (h1 : i < (ns.length : Int)) : Op2 K (gIx K) (.lst (ns.map D.int)) (.int i) (.int (ns.getD i.toNat 0)) := by
  have h := d_ixLn (K := K) (l := ns.map D.int) (i := i) h0 (by rw [List.length_map]; exact h1)
  rw [getD_mapD D.int 0 ns _ (by omega)] at h
  exact h
theorem d_ixStr {ns : List Str} {i : Int} (h0 : 0 ≤ i) (h1 : i < (ns.length : Int)) : Op2 K (gIx K) (.lst (ns.map D.str)) (.int i) (.str (ns.getD i.toNat Str.empty)) := by
  have h := d_ixLn (K := K) (l := ns.map D.str) (i := i) h0 (by rw [List.length_map]; exact h1)
  rw [getD_mapD D.str Str.empty ns _ (by omega)] at h
  exact h
theorem getD_in {α : Type} (e : α) : ∀ (ns : List α) (i : Nat), i < ns.length → ns.getD i e ∈ ns
  | [], i, h => by simp at h
  | n :: ns, 0, _ => List.mem_cons_self
  | n :: ns, i + 1, h => List.mem_cons_of_mem _ (getD_in e ns i (by simpa using h))
/-! slices -/
def cutD (xs : List D) (lo hi : Option Int) : List D := (xs.drop (HT.sIx xs.length 0 lo)).take (HT.sIx xs.length xs.length hi - HT.sIx xs.length 0 lo)
theorem cutD_rp {F : Hp} {vs : List V} {ds : List D} (r : RpA K F vs ds) (lo hi : Option Int) : RpA K F (cutV vs lo hi) (cutD ds lo hi) := by
  unfold cutV cutD
  rw [r.length]
  exact (r.drop _).take _
theorem o_sl {tl th : TO} {lo hi : Option Int} (h : EvD K te G (.lst l)) (h1 : EvP K tl G lo) (h2 : EvP K th G hi) : EvO K (tSl (gSl K) te tl th) G (cutD l lo hi) := .mk fun {H0 F0 F H σ} E Q q =>
  h E _ fun v F1 H1 E1 f1 g1 n1 r1 => h1 E1 _ fun F2 H2 E2 f2 g2 n2 => h2 E2 _ fun F3 H3 E3 f3 g3 n3 => by
    cases r1 with
    | lst ha rs =>
      refine Or.inl ⟨_, _, rfl, sq_of (g3 _ _ (g2 _ _ (E1.ef _ _ ha))), fun p hp => ?_⟩
      exact q p _ F3 _ (E3.grow (Ex.refl _) (Ex.new hp) (E3.ef.trans (Ex.new hp)) (Nw.refl _ _)) ((f1.trans f2).trans f3) (((g1.trans g2).trans g3).trans (Ex.new hp)) ((n1.trans n2 g1).trans n3 (g1.trans g2))
        (ex_none ((g1.trans g2).trans g3) hp) (ex_none E3.ef hp) upd_same (cutD_rp (rs.mono (f2.trans f3)) lo hi)
theorem e_slS {tl th : TO} {z : Str} {lo hi : Option Int} (h : EvD K te G (.str z)) (h1 : EvP K tl G lo) (h2 : EvP K th G hi) (hz : z.length ≤ 100000) : EvD K (tSl (gSl K) te tl th) G (.str (cutS z lo hi)) := .mk fun {H0 F0 F H σ} E Q q =>
  h E _ fun v F1 H1 E1 f1 g1 n1 r1 => h1 E1 _ fun F2 H2 E2 f2 g2 n2 => h2 E2 _ fun F3 H3 E3 f3 g3 n3 => by
    cases r1
    exact Or.inr ⟨z, rfl, sz_of hz, q _ F3 H3 E3 ((f1.trans f2).trans f3) ((g1.trans g2).trans g3) ((n1.trans n2 g1).trans n3 (g1.trans g2)) (.str _)⟩
/-! calls of built-ins -/
theorem n_max2 {i j : Int} : OpN K (gMax K) [.int i, .int j] (.int (max i j)) := opn_l (op1_v fun {F H vs} e r => by
  obtain ⟨v, w, rfl, r1, r2⟩ := rpa2 r
  refine ⟨.int (max i j), .int _, fun Q q => ⟨i, j, by rw [rp_int r1, rp_int r2], ?_⟩⟩
  have h : (if j > i then j else i) = max i j := by
    by_cases z : j > i
    · rw [if_pos z]
      omega
    · rw [if_neg z]
      omega
  rw [h]
  exact q)
theorem n_min2 {i j : Int} : OpN K (gMin K) [.int i, .int j] (.int (min i j)) := opn_l (op1_v fun {F H vs} e r => by
  obtain ⟨v, w, rfl, r1, r2⟩ := rpa2 r
  refine ⟨.int (min i j), .int _, fun Q q => ⟨i, j, by rw [rp_int r1, rp_int r2], ?_⟩⟩
  have h : (if j < i then j else i) = min i j := by
    by_cases z : j < i
    · rw [if_pos z]
      omega
    · rw [if_neg z]
      omega
  rw [h]
  exact q)
theorem n_abs {i : Int} : OpN K rAbs [.int i] (.int (i.natAbs : Int)) := op1_v fun {F H vs} e r => by
  obtain ⟨v, rfl, r1⟩ := rpa1 r
  refine ⟨.int (i.natAbs : Int), .int _, fun Q q => ⟨i, by rw [rp_int r1], ?_⟩⟩
  have h : (if i < 0 then -i else i) = (i.natAbs : Int) := by
    by_cases z : i < 0
    · rw [if_pos z]
      omega
    · rw [if_neg z]
      omega
  rw [h]
  exact q
theorem n_lenL : OpN K (rLen K) [.lst l] (.int (l.length : Int)) := op1_v fun {F H vs} e r => by
  obtain ⟨v, rfl, r1⟩ := rpa1 r
  cases r1 with
  | lst h1 s1 => exact ⟨.int _, .int _, fun Q q => ⟨_, l.length, rfl, Or.inl ⟨_, sq_of (e _ _ h1), s1.length.symm⟩, q⟩⟩
theorem n_lenT : OpN K (rLen K) [.tup l] (.int (l.length : Int)) := op1_v fun {F H vs} e r => by
  obtain ⟨v, rfl, r1⟩ := rpa1 r
  cases r1 with
  | tup h1 s1 => exact ⟨.int _, .int _, fun Q q => ⟨_, l.length, rfl, Or.inr ⟨_, st_of (e _ _ h1), s1.length.symm⟩, q⟩⟩
theorem n_lenR {ns : List Int} : OpN K (rLen K) [.scr ns] (.int (ns.length : Int)) := op1_v fun {F H vs} e r => by
  obtain ⟨v, rfl, r1⟩ := rpa1 r
  cases r1 with
  | scr h1 => exact ⟨.int _, .int _, fun Q q => ⟨_, ns.length, rfl, Or.inl ⟨_, ex_l e h1, by rw [List.length_map]⟩, q⟩⟩
theorem n_lenS {z : Str} (hz : z.length ≤ 100000) : OpN K (rLen K) [.str z] (.int (z.length : Int)) := op1_v fun {F H vs} e r => by
  obtain ⟨v, rfl, r1⟩ := rpa1 r
  cases r1
  exact ⟨.int _, .int _, fun Q q => ⟨_, z.length, rfl, ⟨sz_of hz, rfl⟩, q⟩⟩
theorem n_intS {z : Str} {n : Int} (h : PySem.intText? z = some n) (hz : z.length ≤ 640) : OpN K gInt [.str z] (.int n) := opn_r (op1_v fun {F H vs} e r => by
  obtain ⟨v, rfl, r1⟩ := rpa1 r
  cases r1
  exact ⟨.int _, .int _, fun Q q => ⟨z, n, rfl, h, hz, q⟩⟩)
theorem n_strI {n : Int} (h : n.natAbs.log2 < 1920) : OpN K gStr [.int n] (.str (toString n)) := opn_l (op1_v fun {F H vs} e r => by
  obtain ⟨v, rfl, r1⟩ := rpa1 r
  cases r1
  exact ⟨.str _, .str _, fun Q q => ⟨n, rfl, h, q⟩⟩)
def reprB (b : Bool) : Str := if b then "True" else "False"
theorem n_reprB {b : Bool} : OpN K gRepr [.bl b] (.str (reprB b)) := opn_r (opn_l (op1_v fun {F H vs} e r => by
  obtain ⟨v, rfl, r1⟩ := rpa1 r
  cases r1
  refine ⟨.str (reprB b), .str _, fun Q q => ⟨b, rfl, ?_⟩⟩
  unfold reprB at q
  cases b <;> exact q))
theorem n_reprI {n : Int} (h : n.natAbs.log2 < 1920) : OpN K gRepr [.int n] (.str (toString n)) := opn_l (op1_v fun {F H vs} e r => by
  obtain ⟨v, rfl, r1⟩ := rpa1 r
  cases r1
  exact ⟨.str _, .str _, fun Q q => ⟨n, rfl, h, q⟩⟩)
theorem n_reprN : OpN K gRepr [.non] (.str "None") := opn_r (opn_r (op1_v fun {F H vs} e r => by
  obtain ⟨v, rfl, r1⟩ := rpa1 r
  cases r1
  exact ⟨.str _, .str _, fun Q q => ⟨rfl, q⟩⟩))
theorem n_listL : OpNO K (rListOf K) [.lst l] l := .mk fun {F H vs} e r Q q => by
  obtain ⟨v, rfl, r1⟩ := rpa1 r
  cases r1 with
  | lst h1 s1 => exact ⟨_, _, rfl, Or.inl (sq_of (e _ _ h1)), fun p hp => q p _ _ (Ex.new hp) hp upd_same s1⟩
theorem n_listT : OpNO K (rListOf K) [.tup l] l := .mk fun {F H vs} e r Q q => by
  obtain ⟨v, rfl, r1⟩ := rpa1 r
  cases r1 with
  | tup h1 s1 => exact ⟨_, _, rfl, Or.inr (st_of (e _ _ h1)), fun p hp => q p _ _ (Ex.new hp) hp upd_same s1⟩
theorem n_all {bs : List Bool} : OpN K (rAll K) [.lst (bs.map D.bl)] (.bl (bs.all id)) := op1_v fun {F H vs} e r => by
  obtain ⟨v, rfl, r1⟩ := rpa1 r
  cases r1 with
  | lst h1 s1 => exact ⟨.bl _, .bl _, fun Q q => ⟨_, bs, rfl, sq_of (e _ _ (by rw [h1, s1.bls])), q⟩⟩
theorem n_any {bs : List Bool} : OpN K (rAny K) [.lst (bs.map D.bl)] (.bl (bs.any id)) := op1_v fun {F H vs} e r => by
  obtain ⟨v, rfl, r1⟩ := rpa1 r
  cases r1 with
  | lst h1 s1 => exact ⟨.bl _, .bl _, fun Q q => ⟨_, bs, rfl, sq_of (e _ _ (by rw [h1, s1.bls])), q⟩⟩
/-- the greatest, the least of a list -/
theorem n_maxL {ns : List Int} {m : Int} (h0 : m ∈ ns) (h1 : ∀ y ∈ ns, y ≤ m) : OpN K (gMax K) [.lst (ns.map D.int)] (.int m) := opn_r (op1_v fun {F H vs} e r => by
  obtain ⟨v, rfl, r1⟩ := rpa1 r
  cases r1 with
  | lst h2 s1 =>
    refine ⟨.int m, .int _, fun Q q => ⟨_, ns, rfl, sq_of (e _ _ (by rw [h2, s1.ints])), List.length_pos_of_mem h0, fun m' hm' hy => ?_⟩⟩
    have e1 := h1 m' hm'
    have e2 := hy m h0
    have e3 : m' = m := by omega
    rw [e3]
    exact q)
theorem n_minL {ns : List Int} {m : Int} (h0 : m ∈ ns) (h1 : ∀ y ∈ ns, m ≤ y) : OpN K (gMin K) [.lst (ns.map D.int)] (.int m) := opn_r (op1_v fun {F H vs} e r => by
  obtain ⟨v, rfl, r1⟩ := rpa1 r
  cases r1 with
  | lst h2 s1 =>
    refine ⟨.int m, .int _, fun Q q => ⟨_, ns, rfl, sq_of (e _ _ (by rw [h2, s1.ints])), List.length_pos_of_mem h0, fun m' hm' hy => ?_⟩⟩
    have e1 := h1 m' hm'
    have e2 := hy m h0
    have e3 : m' = m := by omega
    rw [e3]
    exact q)
/-! isinstance -/
theorem ty_of {F : Hp} {v : V} {d : D} (h : Rp K F v d) (hn : noObj d = true) {H : Hp} (e : Ex F H) : TyX K H v (.type (kindD d)) := by
  cases h with
  | non => exact .base .non
  | bl b => exact .base (.bl b)
  | int i => exact .base (.int i)
  | str x => exact .base (.str x)
  | lst h1 _ => exact .base (.lst (e _ _ h1))
  | tup h1 _ => exact .base (.tup (e _ _ h1))
  | dic h1 _ _ => exact .base (.dK (e _ _ h1))
  | obj _ _ _ => cases hn
  | scr h1 =>
    rcases ex_l e h1 with (h2 | ⟨o, h2⟩) | ⟨o, its, n, h2, h3, _⟩
    · exact .base (.lst h2)
    · exact .base (.frz h2)
    · exact .kList h2 h3
def isS : D → Bool
  | .str _ => true
  | _ => false
def isI : D → Bool
  | .int _ => true
  | .bl _ => true
  | _ => false
def isB : D → Bool
  | .bl _ => true
  | _ => false
def isL : D → Bool
  | .lst _ => true
  | .scr _ => true
  | _ => false
def isT : D → Bool
  | .tup _ => true
  | _ => false
theorem kit_str {x : D} (hn : noObj x = true) : kitB (kindD x) "str" = some (isS x) := by
  cases x with
  | non => exact (by decide +kernel : kitB "NoneType" "str" = some false)
  | bl _ => exact (by decide +kernel : kitB "bool" "str" = some false)
  | int _ => exact (by decide +kernel : kitB "int" "str" = some false)
  | str _ => exact (by decide +kernel : kitB "str" "str" = some true)
  | lst _ => exact (by decide +kernel : kitB "list" "str" = some false)
  | tup _ => exact (by decide +kernel : kitB "tuple" "str" = some false)
  | dic _ => exact (by decide +kernel : kitB "dict" "str" = some false)
  | obj _ _ => cases hn
  | scr _ => exact (by decide +kernel : kitB "list" "str" = some false)
theorem kit_int {x : D} (hn : noObj x = true) : kitB (kindD x) "int" = some (isI x) := by
  cases x with
  | non => exact (by decide +kernel : kitB "NoneType" "int" = some false)
  | bl _ => exact (by decide +kernel : kitB "bool" "int" = some true)
  | int _ => exact (by decide +kernel : kitB "int" "int" = some true)
  | str _ => exact (by decide +kernel : kitB "str" "int" = some false)
  | lst _ => exact (by decide +kernel : kitB "list" "int" = some false)
  | tup _ => exact (by decide +kernel : kitB "tuple" "int" = some false)
  | dic _ => exact (by decide +kernel : kitB "dict" "int" = some false)
  | obj _ _ => cases hn
  | scr _ => exact (by decide +kernel : kitB "list" "int" = some false)
theorem kit_bool {x : D} (hn : noObj x = true) : kitB (kindD x) "bool" = some (isB x) := by
  cases x with
  | non => exact (by decide +kernel : kitB "NoneType" "bool" = some false)
  | bl _ => exact (by decide +kernel : kitB "bool" "bool" = some true)
  | int _ => exact (by decide +kernel : kitB "int" "bool" = some false)
  | str _ => exact (by decide +kernel : kitB "str" "bool" = some false)
  | lst _ => exact (by decide +kernel : kitB "list" "bool" = some false)
  | tup _ => exact (by decide +kernel : kitB "tuple" "bool" = some false)
  | dic _ => exact (by decide +kernel : kitB "dict" "bool" = some false)
  | obj _ _ => cases hn
  | scr _ => exact (by decide +kernel : kitB "list" "bool" = some false)
theorem kit_list {x : D} (hn : noObj x = true) : kitB (kindD x) "list" = some (isL x) := by
  cases x with
  | non => exact (by decide +kernel : kitB "NoneType" "list" = some false)
  | bl _ => exact (by decide +kernel : kitB "bool" "list" = some false)
  | int _ => exact (by decide +kernel : kitB "int" "list" = some false)
  | str _ => exact (by decide +kernel : kitB "str" "list" = some false)
  | lst _ => exact (by decide +kernel : kitB "list" "list" = some true)
  | tup _ => exact (by decide +kernel : kitB "tuple" "list" = some false)
  | dic _ => exact (by decide +kernel : kitB "dict" "list" = some false)
  | obj _ _ => cases hn
  | scr _ => exact (by decide +kernel : kitB "list" "list" = some true)
theorem kit_tuple {x : D} (hn : noObj x = true) : kitB (kindD x) "tuple" = some (isT x) := by
  cases x with
  | non => exact (by decide +kernel : kitB "NoneType" "tuple" = some false)
  | bl _ => exact (by decide +kernel : kitB "bool" "tuple" = some false)
  | int _ => exact (by decide +kernel : kitB "int" "tuple" = some false)
  | str _ => exact (by decide +kernel : kitB "str" "tuple" = some false)
  | lst _ => exact (by decide +kernel : kitB "list" "tuple" = some false)
  | tup _ => exact (by decide +kernel : kitB "tuple" "tuple" = some true)
  | dic _ => exact (by decide +kernel : kitB "dict" "tuple" = some false)
  | obj _ _ => cases hn
  | scr _ => exact (by decide +kernel : kitB "list" "tuple" = some false)
theorem e_isi {T : String} {b : Bool} (h : EvD K ta G d) (hn : noObj d = true) (hk : kitB (kindD d) T = some b) : EvD K (tCB (rIsi K) (tCons ta (tCons (tC (.ty T)) tNil))) G (.bl b) := .mk fun {H0 F0 F H σ} E Q q =>
  h E _ fun v F1 H1 E1 f1 g1 n1 r1 => ⟨v, .ty T, .type (kindD d), .type T, b, rfl, .ty T, ty_of r1 hn E1.ef, kit_ty hk, q _ F1 H1 E1 f1 g1 n1 (.bl _)⟩
theorem e_isS (h : EvD K ta G d) (hn : noObj d = true) : EvD K (tCB (rIsi K) (tCons ta (tCons (tC (.ty "str")) tNil))) G (.bl (isS d)) := e_isi h hn (kit_str hn)
theorem e_isI (h : EvD K ta G d) (hn : noObj d = true) : EvD K (tCB (rIsi K) (tCons ta (tCons (tC (.ty "int")) tNil))) G (.bl (isI d)) := e_isi h hn (kit_int hn)
theorem e_isB (h : EvD K ta G d) (hn : noObj d = true) : EvD K (tCB (rIsi K) (tCons ta (tCons (tC (.ty "bool")) tNil))) G (.bl (isB d)) := e_isi h hn (kit_bool hn)
theorem e_isL (h : EvD K ta G d) (hn : noObj d = true) : EvD K (tCB (rIsi K) (tCons ta (tCons (tC (.ty "list")) tNil))) G (.bl (isL d)) := e_isi h hn (kit_list hn)
theorem e_isT (h : EvD K ta G d) (hn : noObj d = true) : EvD K (tCB (rIsi K) (tCons ta (tCons (tC (.ty "tuple")) tNil))) G (.bl (isT d)) := e_isi h hn (kit_tuple hn)
/-- sep.join(list of texts) -/
def rJoin (K : PySem.W.Frag) : V → List V → Hp → VK → Prop := fun x xs H Q => ∃ a p, ∃ ys : List Str, x = .str a ∧ xs = [.ref p] ∧ (SqL K H p (ys.map V.str) ∨ SqT K H p (ys.map V.str)) ∧
      (ys.map (·.length)).sum + ys.length * a.length ≤ 16777216 ∧ Q (.str (Txt.join a ys)) H
theorem e_join {a : Str} {ys : List Str} (h : EvD K ta G (.str a)) (h2 : EvD K tb G (.lst (ys.map D.str))) (hz : (ys.map (·.length)).sum + ys.length * a.length ≤ 16777216) : EvD K (tM1 (rJoin K) ta tb) G (.str (Txt.join a ys)) := .mk fun {H0 F0 F H σ} E Q q =>
  h E _ fun v F1 H1 E1 f1 g1 n1 r1 => by
    cases r1
    refine ⟨⟨a, rfl⟩, h2 E1 _ fun w F2 H2 E2 f2 g2 n2 r2 => ?_⟩
    cases r2 with
    | lst h3 s3 => exact ⟨a, _, ys, rfl, rfl, Or.inl (sq_of (E2.ef _ _ (by rw [h3, s3.strs]))), hz, q _ F2 H2 E2 (f1.trans f2) (g1.trans g2) (n1.trans n2 g1) (.str _)⟩
/-- text.index(sign) -/
def rSIndex : V → List V → Hp → VK → Prop := fun x xs H Q => ∃ a b i rest, x = .str a ∧ xs = [.str b] ∧ Builtin.Str.occurrences a b 0 a.length 1 = i :: rest ∧ Q (.int (i : Nat)) H
theorem e_sindex {a b : Str} {i : Nat} {rest : List Nat} (h : EvD K ta G (.str a)) (h2 : EvD K tb G (.str b)) (ho : Builtin.Str.occurrences a b 0 a.length 1 = i :: rest) : EvD K (tM1 rSIndex ta tb) G (.int (i : Int)) := .mk fun {H0 F0 F H σ} E Q q =>
  h E _ fun v F1 H1 E1 f1 g1 n1 r1 => by
    cases r1
    refine ⟨⟨a, rfl⟩, h2 E1 _ fun w F2 H2 E2 f2 g2 n2 r2 => ?_⟩
    cases r2
    exact ⟨a, b, i, rest, rfl, rfl, ho, q _ F2 H2 E2 (f1.trans f2) (g1.trans g2) (n1.trans n2 g1) (.int _)⟩
/-- {} and a written dict of one pair of numbers -/
theorem e_dnew : EvD K tDNewK G (.dic []) := .mk fun {H0 F0 F H σ} E Q q => fun p hp => by
  have ef : Ex F (upd F p (.dK [])) := Ex.new (ex_none E.ef hp)
  exact q _ (upd F p (.dK [])) _ (E.grow ef (Ex.new hp) (ex_upd_both E.ef) (nw_upd hp (Nw.refl _ _))) ef (Ex.new hp) (nw_upd hp (Nw.refl _ _)) (.dic (es := []) upd_same .nil .nil)
theorem e_disp1 {a b : Int} : EvD K (tDisp [((tC (.int a)), (tC (.int b)))]) G (.dic [(.int a, .int b)]) := .mk fun {H0 F0 F H σ} E Q q => fun p hp => by
  refine ⟨upd_same, [(Sum.inl a, V.int b)], rfl, (by show 1 ≤ 15; decide), ?_⟩
  rw [upd_upd]
  have ef : Ex F (upd F p (.dK [(Sum.inl a, V.int b)])) := Ex.new (ex_none E.ef hp)
  exact q _ (upd F p (.dK [(Sum.inl a, V.int b)])) _ (E.grow ef (Ex.new hp) (ex_upd_both E.ef) (nw_upd hp (Nw.refl _ _))) ef (Ex.new hp) (nw_upd hp (Nw.refl _ _)) (.dic (es := [(.int a, .int b)]) upd_same (.cons (.int a) .nil) (.cons (.int b) .nil))
theorem op1_neg {i : Int} : Op1 K (rU fun i => .int (-i)) (.int i) (.int (-i)) := .mk fun {F H x} e r Q q => ⟨i, rp_int r, q _ F H (Ex.refl F) e (Ex.refl H) (Nw.refl F H) (.int _)⟩
/-- fields -/
theorem lookup_rp {F : Hp} {f : Str} {d : D} : ∀ {gs : List (Str × V)} {fs : List (Str × D)}, gs.map (fun p => p.1) = fs.map (fun p => p.1) → RpA K F (gs.map fun p => p.2) (fs.map fun p => p.2) → fs.lookup f = some d → ∃ v, gs.lookup f = some v ∧ Rp K F v d
  | [], [], _, _, h => by cases h
  | [], _ :: _, h, _, _ => by cases h
  | _ :: _, [], h, _, _ => by cases h
  | (a, v) :: gs, (b, e) :: fs, hn, r, h => by
    have hab : a = b := by
      have := congrArg List.head? hn
      simpa using this
    have hn' : gs.map (fun p => p.1) = fs.map (fun p => p.1) := by
      have := congrArg List.tail hn
      simpa using this
    subst hab
    have r' : RpA K F (v :: gs.map fun p => p.2) (e :: fs.map fun p => p.2) := r
    cases r' with
    | cons r1 r2 =>
      by_cases z : f == a
      · rw [List.lookup_cons, z] at h ⊢
        cases h
        exact ⟨v, rfl, r1⟩
      · have z' : (f == a) = false := by simpa using z
        rw [List.lookup_cons, z'] at h ⊢
        exact lookup_rp hn' r2 h
theorem e_fld {C : Addr} {fs : List (Str × D)} {f : Str} (h : EvD K ta G (.obj C fs)) (hc : Cls K C) (hn : NoAttr K C f) (hl : fs.lookup f = some d) : EvD K (tFld K ta f) G d := .mk fun {H0 F0 F H σ} E Q q =>
  h E _ fun v F1 H1 E1 f1 g1 n1 r1 => by
    cases r1 with
    | obj h1 h2 h3 =>
      obtain ⟨v, k1, k2⟩ := lookup_rp h2 h3 hl
      exact ⟨_, C, _, _, v, rfl, E1.ef _ _ h1, hc, hn, k1, q v F1 H1 E1 f1 g1 n1 k2⟩
end
end Cy

set_option Elab.async false
set_option linter.all false
set_option maxRecDepth 100000
set_option maxHeartbeats 2000000
namespace Cy
open PySem L2 Evl
section
variable {K : PySem.W.Frag} {G G1 G2 : List Sl} {ta tb te tx : TE} {t u tt : TT} {tu tw tz : TS} {a b c d : D} {o : Out} {g : TG}
theorem st_guard {x : Bool} (h : EvTt K t G x) (h1 : x = true → StD K tu G (.rt d)) (h2 : x = false → StD K tw G (.rt d)) : StD K (tSeq (tIfS t tu tNext) tw) G (.rt d) := by
  cases x with
  | true => exact st_stop (st_if h (fun _ => h1 rfl) (fun q => nomatch q)) (fun _ q => nomatch q)
  | false => exact st_seq (st_if h (fun q => nomatch q) (fun _ => st_next)) (h2 rfl)
theorem st_guardO {x : Bool} {l : List D} (h : EvTt K t G x) (h1 : x = true → StD K tu G (.ro l)) (h2 : x = false → StD K tw G (.ro l)) : StD K (tSeq (tIfS t tu tNext) tw) G (.ro l) := by
  cases x with
  | true => exact st_stop (st_if h (fun _ => h1 rfl) (fun q => nomatch q)) (fun _ q => nomatch q)
  | false => exact st_seq (st_if h (fun q => nomatch q) (fun _ => st_next)) (h2 rfl)
/-- a guard that never fires -/
theorem st_pass (h : EvTt K t G false) (h2 : StD K tw G o) : StD K (tSeq (tIfS t tu tNext) tw) G o := st_seq (st_if h (fun q => nomatch q) (fun _ => st_next)) h2
theorem getD_map_range (items : List D) : (List.range items.length).map (fun i => items.getD i .non) = items := by
  apply List.ext_getElem
  · rw [List.length_map, List.length_range]
  · intro i h1 h2
    rw [List.getElem_map, List.getElem_range, List.getD_eq_getElem?_getD, List.getElem?_eq_getElem h2]
    rfl
theorem lcD_items (items : List D) (f : D → Bool) (v : D → D) : lcD items.length (fun i => f (items.getD i .non)) (fun i => v (items.getD i .non)) = (items.filter f).map v := by
  unfold lcD
  conv => rhs; rw [← getD_map_range items]
  rw [List.filter_map, List.map_map]
  rfl
theorem getD_of {items : List D} {i : Nat} (h : i < items.length) : items.getD i .non = items[i] := by
  rw [List.getD_eq_getElem?_getD, List.getElem?_eq_getElem h]
  rfl
theorem o_lcF {wi : TI} {items : List D} {j : Nat} (f : D → Bool) (v : D → D) (hi : ItD K wi G items) (hz : items.length ≤ 40000)
    (hf : ∀ d, d ∈ items → EvTt K tt ((wipeG G [j]).set j (.dat d)) (f d)) (hv : ∀ d, d ∈ items → f d = true → EvD K te ((wipeG G [j]).set j (.dat d)) (v d)) :
    EvO K (tLc wi (gName j) tt te [j]) G ((items.filter f).map v) := by
  rw [← lcD_items items f v]
  refine o_lc _ _ (fun i => (wipeG G [j]).set j (.dat (items.getD i .non))) keeps1 hi hz (fun i d h => ?_) (fun i h => ?_) (fun i h hh => ?_)
  · have hl := (List.getElem?_eq_some_iff.mp h)
    obtain ⟨h1, h2⟩ := hl
    rw [getD_of h1, h2]
    exact g_name
  · skip
    rw [getD_of h]
    exact hf _ (List.getElem_mem h)
  · skip
    rw [getD_of h] at hh ⊢
    exact hv _ (List.getElem_mem h) hh
theorem filter_true {α : Type} (l : List α) : l.filter (fun _ => true) = l := List.filter_eq_self.mpr fun _ _ => rfl
theorem o_lcM {wi : TI} {items : List D} {j : Nat} (v : D → D) (hi : ItD K wi G items) (hz : items.length ≤ 40000)
    (hv : ∀ d, d ∈ items → EvD K te ((wipeG G [j]).set j (.dat d)) (v d)) : EvO K (tLc wi (gName j) tYes te [j]) G (items.map v) := by
  have h := o_lcF (K := K) (G := G) (te := te) (tt := tYes) (j := j) (fun _ => true) v hi hz (fun d hd => t_yes) (fun d hd _ => hv d hd)
  rw [filter_true] at h
  exact h
/-- two names -/
theorem o_lcM2 {wi : TI} {items : List D} {i j : Nat} (hij : i ≠ j) (v w x : D → D) (hi : ItD K wi G items) (hz : items.length ≤ 40000) (hp : ∀ d, d ∈ items → d = .tup [v d, w d])
    (hv : ∀ d, d ∈ items → EvD K te (((wipeG G [i, j]).set i (.dat (v d))).set j (.dat (w d))) (x d)) : EvO K (tLc wi (gTup K 2 (gCons (gName i) (gCons (gName j) gNil))) tYes te [i, j]) G (items.map x) := by
  have e : items.map x = lcD items.length (fun _ => true) (fun i => x (items.getD i .non)) := by
    have := lcD_items items (fun _ => true) x
    rw [this, filter_true]
  rw [e]
  refine o_lc _ _ (fun n => ((wipeG G [i, j]).set i (.dat (v (items.getD n .non)))).set j (.dat (w (items.getD n .non)))) (keeps2 hij) hi hz (fun n d h => ?_) (fun n h => t_yes) (fun n h _ => ?_)
  · obtain ⟨h1, h2⟩ := List.getElem?_eq_some_iff.mp h
    rw [getD_of h1, h2]
    have hm : d ∈ items := h2 ▸ List.getElem_mem h1
    have hd := hp d hm
    conv => arg 4; rw [hd]
    exact g_tup (gs_cons g_name (gs_cons g_name gs_nil)) rfl
  · skip
    rw [getD_of h]
    exact hv _ (List.getElem_mem h)
/-- x, y = e1, e2 -/
theorem st_par {i j : Nat} {ta : TA} (h : EvS K ta G [a, b]) : StD K (tPar i j ta) G (.nx ((G.set i (.dat a)).set j (.dat b))) := .mk fun {H0 F0 F H σ E} En p => h En _ fun vs F1 H1 E1 f1 g1 n1 r1 => by
  obtain ⟨v, w, rfl, r2, r3⟩ := rpa2 r1
  exact ⟨v, w, rfl, p _ F1 H1 ((E1.setD r2 i).setD r3 j) f1⟩
theorem st_retN : StD K tRetN G (.rt .non) := .mk fun {H0 F0 F H σ E} En p => p .non F H En.ro .non
/-- xs.pop(i), the item -/
theorem st_appPop {i : Nat} {l : List D} : True := trivial
/-- xs.clear() of an owned list -/
theorem st_clear {i : Nat} {l : List D} (h : G[i]? = some (.own (.lst l))) : StD K (tDrop (tBM0 K "list" rClear (tVar i))) G (.nx (G.set i (.own (.lst [])))) := .mk fun {H0 F0 F H σ E} En p => by
  unfold tDrop tBM0
  exact e_own h En fun q xs hq hH hF hr => ⟨Or.inl ⟨rfl, xs, sq_of hH⟩, q, xs, rfl, rfl, hH, p σ F _ (En.mut h hq (.lst .nil)) (Ex.refl F)⟩
theorem rp_lcLst {bs : List Bool} : True := trivial
end
end Cy
namespace Cy
open PySem L2 Evl
/-! data of small depth may be compared -/
def okD : Nat → D → Bool
  | _, .non => true
  | _, .bl _ => true
  | _, .int _ => true
  | _, .str s => PyData.strOk s
  | 0, _ => false
  | n + 1, .lst xs => xs.all (okD n)
  | n + 1, .tup xs => xs.all (okD n)
  | _, .scr _ => false
  | _, .dic _ => false
  | _, .obj _ _ => false
theorem okD_all {n : Nat} (ih : ∀ d, okD n d = true → plain d = true ∧ (toP d).canLay0 = true ∧ (toP d).depth ≤ n) : ∀ xs : List D, xs.all (okD n) = true → plains xs = true ∧ PyData.canLayAll0 (toPs xs) = true ∧ PyData.depthAll (toPs xs) ≤ n
  | [], _ => ⟨by unfold plains; rfl, by unfold toPs PyData.canLayAll0; rfl, by unfold toPs PyData.depthAll; exact Nat.zero_le _⟩
  | x :: xs, h => by
    rw [List.all_cons, Bool.and_eq_true] at h
    obtain ⟨a, b, c⟩ := ih x h.1
    obtain ⟨a', b', c'⟩ := okD_all ih xs h.2
    refine ⟨by unfold plains; rw [a, a']; rfl, by unfold toPs PyData.canLayAll0; rw [b, b']; rfl, by unfold toPs PyData.depthAll; exact Nat.max_le.mpr ⟨c, c'⟩⟩
theorem okD_ok : ∀ (n : Nat) (d : D), okD n d = true → plain d = true ∧ (toP d).canLay0 = true ∧ (toP d).depth ≤ n := by
  intro n
  induction n with
  | zero =>
    intro d h
    cases d with
    | non => exact ⟨by unfold plain; rfl, by unfold toP PyData.canLay0; rfl, by unfold toP PyData.depth; exact Nat.zero_le _⟩
    | bl _ => exact ⟨by unfold plain; rfl, by unfold toP PyData.canLay0; rfl, by unfold toP PyData.depth; exact Nat.zero_le _⟩
    | int _ => exact ⟨by unfold plain; rfl, by unfold toP PyData.canLay0; rfl, by unfold toP PyData.depth; exact Nat.zero_le _⟩
    | str s => exact ⟨by unfold plain; rfl, by unfold toP PyData.canLay0; unfold okD at h; exact h, by unfold toP PyData.depth; exact Nat.zero_le _⟩
    | lst _ => unfold okD at h; cases h
    | tup _ => unfold okD at h; cases h
    | dic _ => unfold okD at h; cases h
    | obj _ _ => unfold okD at h; cases h
    | scr _ => unfold okD at h; cases h
  | succ n ih =>
    intro d h
    cases d with
    | non => exact ⟨by unfold plain; rfl, by unfold toP PyData.canLay0; rfl, by unfold toP PyData.depth; exact Nat.zero_le _⟩
    | bl _ => exact ⟨by unfold plain; rfl, by unfold toP PyData.canLay0; rfl, by unfold toP PyData.depth; exact Nat.zero_le _⟩
    | int _ => exact ⟨by unfold plain; rfl, by unfold toP PyData.canLay0; rfl, by unfold toP PyData.depth; exact Nat.zero_le _⟩
    | str s => exact ⟨by unfold plain; rfl, by unfold toP PyData.canLay0; unfold okD at h; exact h, by unfold toP PyData.depth; exact Nat.zero_le _⟩
    | lst xs =>
      unfold okD at h
      obtain ⟨a, b, c⟩ := okD_all ih xs h
      exact ⟨by unfold plain; exact a, by unfold toP PyData.canLay0; exact b, by unfold toP PyData.depth; exact Nat.succ_le_succ c⟩
    | tup xs =>
      unfold okD at h
      obtain ⟨a, b, c⟩ := okD_all ih xs h
      exact ⟨by unfold plain; exact a, by unfold toP PyData.canLay0; exact b, by unfold toP PyData.depth; exact Nat.succ_le_succ c⟩
    | dic _ => unfold okD at h; cases h
    | obj _ _ => unfold okD at h; cases h
    | scr _ => unfold okD at h; cases h
theorem ok_eq {n : Nat} {d : D} (h : okD n d = true) (hn : n ≤ 64) : okEq d = true := by
  obtain ⟨a, b, c⟩ := okD_ok n d h
  unfold okEq SeqAt.shaped
  rw [a, b, decide_eq_true (Nat.le_trans c hn)]
  rfl
end Cy

set_option Elab.async false
set_option linter.all false
set_option maxRecDepth 100000
set_option maxHeartbeats 4000000
namespace L01
open PySem L2 Evl Cy TL
/-! what the defs compute -/
theorem le_sign (a c : Nat) : (!decide (([c] : List Nat) < [a])) = decide (a ≤ c) := by
  by_cases h : c < a
  · rw [decide_eq_true (List.cons_lt_cons_iff.mpr (Or.inl h)), decide_eq_false (by omega)]
    rfl
  · have h2 : ¬ (([c] : List Nat) < [a]) := fun q => by
      rcases List.cons_lt_cons_iff.mp q with z | ⟨_, z⟩
      · exact h z
      · exact absurd z (List.not_lt_nil _)
    rw [decide_eq_false h2, decide_eq_true (by omega)]
    rfl
def m1 (c k : Int) : Int := (c % 1000000007 + 7919 * k * k + 31 * k + 17) * 48271 % 2147483647
theorem m1_bd (c k : Int) : 0 ≤ m1 c k ∧ m1 c k < 2147483647 := ⟨Int.emod_nonneg _ (by decide), Int.emod_lt_of_pos _ (by decide)⟩
def mixed (c k : Int) : Int := m1 c k * (m1 c k % 65521 + 16807) % 2147483629 / 4
theorem mixed_bd (c k : Int) : 0 ≤ mixed c k ∧ mixed c k < 1000000000 := by
  have h0 : 0 ≤ m1 c k * (m1 c k % 65521 + 16807) % 2147483629 := Int.emod_nonneg _ (by decide)
  have h1 : m1 c k * (m1 c k % 65521 + 16807) % 2147483629 < 2147483629 := Int.emod_lt_of_pos _ (by decide)
  unfold mixed
  omega
def R_l_mixed : List D → D → Prop := fun ds d => ∃ c k, ds = [.int c, .int k] ∧ 0 ≤ k ∧ k ≤ 10000 ∧ d = .int (mixed c k)
def dv : Nat → Int → Int
  | 0, c => c
  | n + 1, c => dv n c / 1000000000
def number (ns : List Int) (k : Int) : Int :=
  if ns = [] then mixed 0 k else if ns.getD 0 0 % 2 = 1 then dv (min 60 (k / (ns.length : Int))).toNat (ns.getD (k % (ns.length : Int)).toNat 0) % 1000000000 else mixed (ns.getD (k % (ns.length : Int)).toNat 0) k
theorem number_bd (ns : List Int) (k : Int) : 0 ≤ number ns k ∧ number ns k < 1000000000 := by
  unfold number
  split
  · exact mixed_bd _ _
  · split
    · exact ⟨Int.emod_nonneg _ (by decide), Int.emod_lt_of_pos _ (by decide)⟩
    · exact mixed_bd _ _
def R_l_number : List D → D → Prop := fun ds d => ∃ ns k, ds = [.scr ns, .int k] ∧ ns.length ≤ 63 ∧ 0 ≤ k ∧ k ≤ 10000 ∧ d = .int (number ns k)
def letter (c : Nat) : Bool := decide (97 ≤ c) && decide (c ≤ 122)
def isName : D → Bool
  | .str s => decide (1 ≤ s.length ∧ s.length ≤ 8) && s.cps.toList.all letter
  | _ => false
/-- a thing that the law hands in -/
def thing (d : D) : Prop := noObj d = true ∧ ∀ s, d = .str s → s.length ≤ 1000 ∧ ∀ c ∈ s.cps.toList, c < 1114112
def R_is_name : List D → D → Prop := fun ds d => ∃ x, ds = [x] ∧ thing x ∧ d = .bl (isName x)
def R_l_is_name : List D → D → Prop := R_is_name
def digit (c : Nat) : Bool := decide (48 ≤ c) && decide (c ≤ 57)
def numS (s : Str) : D :=
  if 1 ≤ s.length ∧ s.length ≤ 13 ∧ s.cps.toList.all digit = true ∧ ¬ (s.cps.toList.head? = some 48 ∧ s.cps.toList ≠ [48]) ∧ NumText.digitsVal s.cps.toList ≤ 1000000000000 then .int (NumText.digitsVal s.cps.toList : Nat) else .non
def numOf : D → D
  | .str s => numS s
  | _ => .non
def R_number_of : List D → D → Prop := fun ds d => ∃ x, ds = [x] ∧ thing x ∧ d = numOf x
def R_l_number_of : List D → D → Prop := R_number_of
def amongI : D → Int → Int → Bool
  | .int i, a, b => decide (a ≤ i) && decide (i ≤ b)
  | _, _, _ => false
def R_is_among : List D → D → Prop := fun ds d => ∃ x a b, ds = [x, .int a, .int b] ∧ noObj x = true ∧ d = .bl (amongI x a b)
def sp_is_name (K : PySem.W.Frag) : Sp := spD K R_is_name
def sp_is_among (K : PySem.W.Frag) : Sp := spD K R_is_among
def sp_number_of (K : PySem.W.Frag) : Sp := spD K R_number_of
def sp_l_mixed (K : PySem.W.Frag) : Sp := spD K R_l_mixed
def sp_l_number (K : PySem.W.Frag) : Sp := spD K R_l_number
def sp_l_is_name (K : PySem.W.Frag) : Sp := spD K R_l_is_name
def sp_l_number_of (K : PySem.W.Frag) : Sp := spD K R_l_number_of
theorem ln_is_name {ds : List D} {d : D} (h : R_is_name ds d) : ds.length = 1 := by
  obtain ⟨x, rfl, _⟩ := h
  rfl
theorem ln_is_among {ds : List D} {d : D} (h : R_is_among ds d) : ds.length = 3 := by
  obtain ⟨x, a, b, rfl, _⟩ := h
  rfl
theorem ln_number_of {ds : List D} {d : D} (h : R_number_of ds d) : ds.length = 1 := by
  obtain ⟨x, rfl, _⟩ := h
  rfl
theorem ln_l_mixed {ds : List D} {d : D} (h : R_l_mixed ds d) : ds.length = 2 := by
  obtain ⟨x, a, rfl, _⟩ := h
  rfl
theorem ln_l_number {ds : List D} {d : D} (h : R_l_number ds d) : ds.length = 2 := by
  obtain ⟨x, a, rfl, _⟩ := h
  rfl
theorem ln_l_is_name {ds : List D} {d : D} (h : R_l_is_name ds d) : ds.length = 1 := ln_is_name h
theorem ln_l_number_of {ds : List D} {d : D} (h : R_l_number_of ds d) : ds.length = 1 := ln_number_of h

/-! the texts that the law draws -/
def okS (s : Str) (m : Nat) : Prop := s.length ≤ m ∧ ∀ c ∈ s.cps.toList, c < 1114112
theorem okS_app {x y : Str} {m n : Nat} (h : okS x m) (g : okS y n) : okS (x ++ y) (m + n) := by
  have e : (x ++ y).cps.toList = x.cps.toList ++ y.cps.toList := tl_append x y
  refine ⟨?_, fun c hc => ?_⟩
  · have h1 := len_tl (x ++ y)
    have h2 := len_tl x
    have h3 := len_tl y
    have h4 : tl (x ++ y) = tl x ++ tl y := tl_append x y
    rw [h4, List.length_append] at h1
    have := h.1
    have := g.1
    omega
  · rw [e] at hc
    rcases List.mem_append.mp hc with q | q
    · exact h.2 c q
    · exact g.2 c q
theorem okS_mono {x : Str} {m n : Nat} (h : okS x m) (e : m ≤ n) : okS x n := ⟨Nat.le_trans h.1 e, h.2⟩
theorem okS_cut {z : Str} {m : Nat} (h : okS z m) (lo hi : Option Int) : okS (cutS z lo hi) m := by
  refine ⟨Nat.le_trans (cutS_length z lo hi) h.1, fun c hc => h.2 c ?_⟩
  exact List.mem_of_mem_drop (List.mem_of_mem_take hc)
theorem okS_one {c : Nat} (h : c < 1114112) : okS ⟨#[c]⟩ 1 := ⟨Nat.le_refl 1, fun d hd => by
  have : d ∈ [c] := hd
  rw [List.mem_singleton.mp this]
  exact h⟩
theorem okS_dec {s : Str} {m : Nat} (h : (decide (s.length ≤ m) && s.cps.toList.all fun c => decide (c < 1114112)) = true) : okS s m := by
  rw [Bool.and_eq_true] at h
  exact ⟨of_decide_eq_true h.1, fun c hc => of_decide_eq_true (List.all_eq_true.mp h.2 c hc)⟩
theorem joinL_nil : ∀ L : List (List Nat), joinL [] L = L.flatten
  | [] => rfl
  | [p] => by
    show p = p ++ []
    rw [List.append_nil]
  | p :: q :: r => by
    show p ++ ([] ++ joinL [] (q :: r)) = p ++ (q :: r).flatten
    rw [List.nil_append, joinL_nil (q :: r)]
theorem okS_join {ys : List Str} {m : Nat} (h : ∀ y ∈ ys, okS y 1) (hm : ys.length ≤ m) : okS (Txt.join ("" : Str) ys) m := by
  have e : (Txt.join ("" : Str) ys).cps.toList = (ys.map tl).flatten := by
    rw [join_eq]
    have h1 := tl_join ("" : Str) ys
    have h2 : tl ("" : Str) = [] := by decide +kernel
    rw [h2, joinL_nil] at h1
    exact h1
  refine ⟨?_, fun c hc => ?_⟩
  · have h1 : (Txt.join ("" : Str) ys).length = ((ys.map tl).flatten).length := by
      rw [← e]
      exact len_tl _
    rw [h1]
    have : ∀ l : List Str, (∀ y ∈ l, okS y 1) → ((l.map tl).flatten).length ≤ l.length := by
      intro l
      induction l with
      | nil => intro _; exact Nat.le_refl 0
      | cons y l ih =>
        intro hl
        rw [List.map_cons, List.flatten_cons, List.length_append, List.length_cons]
        have h1 := ih fun z hz => hl z (List.mem_cons_of_mem _ hz)
        have h2 := (hl y List.mem_cons_self).1
        rw [len_tl] at h2
        omega
    exact Nat.le_trans (this ys h) hm
  · rw [e] at hc
    obtain ⟨p, hp, hc'⟩ := List.mem_flatten.mp hc
    obtain ⟨y, hy, rfl⟩ := List.mem_map.mp hp
    exact (h y hy).2 c hc'
theorem okS_num {x : Int} (h0 : 0 ≤ x) (h1 : x < 100000000000000) : okS (toString x) 14 ∧ x.natAbs.log2 < 1920 := by
  obtain ⟨n, rfl⟩ : ∃ n : Nat, x = (n : Int) := ⟨x.toNat, by omega⟩
  have hn : n < 10 ^ 14 := by omega
  have e : (Str.ofString (toString (n : Int))).cps.toList = numL n := tl_num n
  refine ⟨⟨?_, fun c hc => ?_⟩, ?_⟩
  · have h2 := len_tl (Str.ofString (toString (n : Int)))
    have h3 := numL_len (n := n) (k := 14) (by decide) hn
    have h4 : tl (Str.ofString (toString (n : Int))) = numL n := tl_num n
    rw [h4] at h2
    show (Str.ofString (toString (n : Int))).length ≤ 14
    omega
  · have hc' : c ∈ numL n := by
      rw [← e]
      exact hc
    have := numL_digits n c hc'
    omega
  · have := PySem.Flt.log2_lt_of (k := 64) (n := n) (by decide) (by omega)
    show n.log2 < 1920
    omega

def top (i : Nat) : Stmt := PySem.Challenge.pw_craneyard_k01_words.main.body.getD i (.Pass ⟨0, 0, 0, 0⟩)

def rTx (f : Str → Bool) : V → List V → Hp → VK → Prop := fun x xs H Q => ∃ a, x = .str a ∧ xs = [] ∧ True ∧ Q (.bl (f a)) H
abbrev s_is_name : Stmt := (top 4)
abbrev nm_is_name : List Str := ["thing"]
theorem sc_is_name : FnScope nm_is_name ["thing"] (defScope s_is_name) := ⟨rfl, rfl, rfl, by decide +kernel, rfl, by decide +kernel, by decide +kernel⟩
def t_is_name (K : PySem.W.Frag) : TS := (tSeq (tIfS (tOr (tNot (tB (tCB (rIsi K) (tCons (tVar 0) (tCons (tC (.ty "str")) tNil))))) (tTest (tOp (gGt) (tCB (rLen K) (tCons (tVar 0) tNil)) (tC (.int 8))))) (tRet (tC (.bl false))) tNext)
  (tRet (tAndV (tM0 (rTx Txt.islower) (tVar 0)) (tAndV (tM0 (rTx Txt.isalpha) (tVar 0)) (tM0 (rTx Txt.isascii) (tVar 0))))))
abbrev s_is_among : Stmt := (top 5)
abbrev nm_is_among : List Str := ["thing", "least", "most"]
theorem sc_is_among : FnScope nm_is_among ["thing", "least", "most"] (defScope s_is_among) := ⟨rfl, rfl, rfl, by decide +kernel, rfl, by decide +kernel, by decide +kernel⟩
def t_is_among (K : PySem.W.Frag) : TS := (tSeq (tIfS (tOr (tNot (tB (tCB (rIsi K) (tCons (tVar 0) (tCons (tC (.ty "int")) tNil))))) (tB (tCB (rIsi K) (tCons (tVar 0) (tCons (tC (.ty "bool")) tNil))))) (tRet (tC (.bl false))) tNext)
  (tRet (tChain (gLe) (gLe) (tVar 1) (tVar 0) (tVar 2))))

abbrev s_number_of : Stmt := (top 6)
abbrev nm_number_of : List Str := ["word", "sign", "number"]
theorem sc_number_of : FnScope nm_number_of ["word"] (defScope s_number_of) := ⟨rfl, rfl, rfl, by decide +kernel, rfl, by decide +kernel, by decide +kernel⟩
def t_number_of (K : PySem.W.Frag) : TS := (tSeq (tIfS (tOr (tNot (tB (tCB (rIsi K) (tCons (tVar 0) (tCons (tC (.ty "str")) tNil))))) (tNot (tTest (tChain (gLe) (gLe) (tC (.int 1)) (tCB (rLen K) (tCons (tVar 0) tNil)) (tC (.int 13)))))) (tRet (tC .non)) tNext)
  (tSeq (tIfS (tNot (tB (tCB (rAll K) (tCons (tLc (iStr (tVar 0)) (gName 1) tYes (tChain (gLe) (gLe) (tC (.str ("0" : Str))) (tVar 1) (tC (.str ("9" : Str)))) [1]) tNil)))) (tRet (tC .non)) tNext)
  (tSeq (tIfS (tAnd (tTest (tOp (gEq K) (tOp (gIx K) (tVar 0) (tC (.int 0))) (tC (.str ("0" : Str))))) (tTest (tOp (gNe K) (tVar 0) (tC (.str ("0" : Str)))))) (tRet (tC .non)) tNext)
  (tSeq (tAsg (tCB (gInt) (tCons (tVar 0) tNil)) (gName 2))
  (tSeq (tIfS (tTest (tOp (gGt) (tVar 2) (tC (.int 1000000000000)))) (tRet (tC .non)) tNext)
  (tRet (tVar 2)))))))

abbrev s_l_mixed : Stmt := (top 8)
abbrev nm_l_mixed : List Str := ["_law_cell", "_law_k", "_law_number_here"]
theorem sc_l_mixed : FnScope nm_l_mixed ["_law_cell", "_law_k"] (defScope s_l_mixed) := ⟨rfl, rfl, rfl, by decide +kernel, rfl, by decide +kernel, by decide +kernel⟩
def t_l_mixed (K : PySem.W.Frag) : TS := (tSeq (tAsg (tOp (gMod) (tOp (gMul) (tOp (gAdd K) (tOp (gAdd K) (tOp (gAdd K) (tOp (gMod) (tVar 0) (tC (.int 1000000007))) (tOp (gMul) (tOp (gMul) (tC (.int 7919)) (tVar 1)) (tVar 1))) (tOp (gMul) (tC (.int 31)) (tVar 1))) (tC (.int 17))) (tC (.int 48271))) (tC (.int 2147483647))) (gName 2))
  (tRet (tOp (gFdv) (tOp (gMod) (tOp (gMul) (tVar 2) (tOp (gAdd K) (tOp (gMod) (tVar 2) (tC (.int 65521))) (tC (.int 16807)))) (tC (.int 2147483629))) (tC (.int 4)))))

abbrev s_l_number : Stmt := (top 9)
abbrev nm_l_number : List Str := ["_law_script", "_law_k", "_law_cell", "_law_time"]
theorem sc_l_number : FnScope nm_l_number ["_law_script", "_law_k"] (defScope s_l_number) := ⟨rfl, rfl, rfl, by decide +kernel, rfl, by decide +kernel, by decide +kernel⟩
def t_l_number (K : PySem.W.Frag) : TS := (tSeq (tAsg (tC (.int 0)) (gName 2))
  (tSeq (tIfS (tTest (tOp (gGt) (tCB (rLen K) (tCons (tVar 0) tNil)) (tC (.int 0)))) (tSeq (tAsg (tOp (gIx K) (tVar 0) (tOp (gMod) (tVar 1) (tCB (rLen K) (tCons (tVar 0) tNil)))) (gName 2))
  (tIfS (tTest (tOp (gEq K) (tOp (gMod) (tOp (gIx K) (tVar 0) (tC (.int 0))) (tC (.int 2))) (tC (.int 1)))) (tSeq (tFor (iRng1 (tCons (tCB (gMin K) (tCons (tC (.int 60)) (tCons (tOp (gFdv) (tVar 1) (tCB (rLen K) (tCons (tVar 0) tNil))) tNil))) tNil)) (gName 3) (tAsg (tOp (gFdv) (tVar 2) (tOp (gPow) (tC (.int 10)) (tC (.int 9)))) (gName 2)))
  (tRet (tOp (gMod) (tVar 2) (tOp (gPow) (tC (.int 10)) (tC (.int 9)))))) tNext)) tNext)
  (tRet (tCall (sp_l_mixed K) [] E0 (tCons (tVar 2) (tCons (tVar 1) tNil))))))

abbrev s_l_is_name : Stmt := (top 10)
abbrev nm_l_is_name : List Str := ["_law_thing", "_law_sign"]
theorem sc_l_is_name : FnScope nm_l_is_name ["_law_thing"] (defScope s_l_is_name) := ⟨rfl, rfl, rfl, by decide +kernel, rfl, by decide +kernel, by decide +kernel⟩
def t_l_is_name (K : PySem.W.Frag) : TS := (tSeq (tIfS (tOr (tNot (tB (tCB (rIsi K) (tCons (tVar 0) (tCons (tC (.ty "str")) tNil))))) (tNot (tTest (tChain (gLe) (gLe) (tC (.int 1)) (tCB (rLen K) (tCons (tVar 0) tNil)) (tC (.int 8)))))) (tRet (tC (.bl false))) tNext)
  (tRet (tOp (gEq K) (tLc (iStr (tVar 0)) (gName 1) (tNot (tTest (tChain (gLe) (gLe) (tC (.str ("a" : Str))) (tVar 1) (tC (.str ("z" : Str)))))) (tVar 1) [1]) (tLst tNil))))

abbrev s_l_number_of : Stmt := (top 11)
abbrev nm_l_number_of : List Str := ["_law_thing", "_law_found", "_law_sign"]
theorem sc_l_number_of : FnScope nm_l_number_of ["_law_thing"] (defScope s_l_number_of) := ⟨rfl, rfl, rfl, by decide +kernel, rfl, by decide +kernel, by decide +kernel⟩
def t_l_number_of (K : PySem.W.Frag) : TS := (tSeq (tIfS (tOr (tNot (tB (tCB (rIsi K) (tCons (tVar 0) (tCons (tC (.ty "str")) tNil))))) (tOr (tTest (tOp (gEq K) (tVar 0) (tC (.str ("" : Str))))) (tTest (tOp (gGt) (tCB (rLen K) (tCons (tVar 0) tNil)) (tC (.int 13)))))) (tRet (tC .non)) tNext)
  (tSeq (tAsg (tC (.int 0)) (gName 1))
  (tSeq (tFor (iStr (tVar 0)) (gName 2) (tSeq (tIfS (tTest (tOp (gNi K) (tVar 2) (tC (.str ("0123456789" : Str))))) (tRet (tC .non)) tNext)
  (tAsg (tOp (gAdd K) (tOp (gMul) (tC (.int 10)) (tVar 1)) (tM1 rSIndex (tC (.str ("0123456789" : Str))) (tVar 2))) (gName 1))))
  (tRet (tIf (tAnd (tTest (tOp (gEq K) (tCB (gStr) (tCons (tVar 1) tNil)) (tVar 0))) (tTest (tOp (gLe) (tVar 1) (tOp (gPow) (tC (.int 10)) (tC (.int 12)))))) (tVar 1) (tC .non))))))

abbrev s_l_text : Stmt := (top 12)
abbrev nm_l_text : List Str := ["_law_cell", "_law_k", "_law_letters", "_law_size", "_law_text_here", "_law_j", "_law_at", "_law_sign"]
theorem sc_l_text : FnScope nm_l_text ["_law_cell", "_law_k"] (defScope s_l_text) := ⟨rfl, rfl, rfl, by decide +kernel, rfl, by decide +kernel, by decide +kernel⟩
def t_l_text (K : PySem.W.Frag) : TS := (tSeq (tAsg (tC (.str ("abcdefghijklmnopqrstuvwxyz" : Str))) (gName 2))
  (tSeq (tAsg (tOp (gMod) (tOp (gFdv) (tVar 0) (tC (.int 8))) (tC (.int 11))) (gName 3))
  (tSeq (tAsg (tM1 (rJoin K) (tC (.str ("" : Str))) (tLc (iRng1 (tCons (tVar 3) tNil)) (gName 5) tYes (tOp (gIx K) (tVar 2) (tOp (gMod) (tOp (gFdv) (tCall (sp_l_mixed K) [] E0 (tCons (tVar 0) (tCons (tOp (gAdd K) (tVar 1) (tVar 5)) tNil))) (tC (.int 5))) (tC (.int 26)))) [5])) (gName 4))
  (tSeq (tAsg (tOp (gMod) (tOp (gFdv) (tVar 0) (tC (.int 100))) (tOp (gAdd K) (tVar 3) (tC (.int 1)))) (gName 6))
  (tSeq (tAsg (tOp (gIx K) (tC (.str ("AZ09 -_.'#[^~@{`Q/" : Str))) (tOp (gMod) (tOp (gFdv) (tVar 0) (tC (.int 2000))) (tC (.int 18)))) (gName 7))
  (tSeq (tIfS (tTest (tOp (gEq K) (tOp (gMod) (tVar 0) (tC (.int 4))) (tC (.int 1)))) (tRet (tOp (gAdd K) (tOp (gAdd K) (tSl (gSl K) (tVar 4) tNoPart (tPart (tVar 6))) (tVar 7)) (tSl (gSl K) (tVar 4) (tPart (tVar 6)) tNoPart))) tNext)
  (tRet (tIf (tTest (tOp (gEq K) (tOp (gMod) (tVar 0) (tC (.int 4))) (tC (.int 2)))) (tOp (gAdd K) (tOp (gAdd K) (tSl (gSl K) (tVar 4) tNoPart (tPart (tVar 6))) (tVar 7)) (tSl (gSl K) (tVar 4) (tPart (tOp (gAdd K) (tVar 6) (tC (.int 1)))) tNoPart)) (tVar 4)))))))))

abbrev s_l_figures : Stmt := (top 13)
abbrev nm_l_figures : List Str := ["_law_cell", "_law_more", "_law_number_here", "_law_text_here", "_law_ahead", "_law_after"]
theorem sc_l_figures : FnScope nm_l_figures ["_law_cell", "_law_more"] (defScope s_l_figures) := ⟨rfl, rfl, rfl, by decide +kernel, rfl, by decide +kernel, by decide +kernel⟩
def t_l_figures (K : PySem.W.Frag) : TS := (tSeq (tAsg (tOp (gIx K) (tLst (tCons (tOp (gMod) (tOp (gFdv) (tVar 0) (tC (.int 8))) (tC (.int 100))) (tCons (tVar 1) (tCons (tOp (gSub) (tOp (gPow) (tC (.int 10)) (tC (.int 12))) (tOp (gMod) (tOp (gFdv) (tVar 0) (tC (.int 8))) (tC (.int 3)))) (tCons (tOp (gAdd K) (tOp (gPow) (tC (.int 10)) (tC (.int 12))) (tOp (gMod) (tOp (gFdv) (tVar 0) (tC (.int 8))) (tC (.int 3)))) (tCons (tOp (gMul) (tVar 1) (tC (.int 48271))) tNil)))))) (tOp (gMod) (tVar 0) (tC (.int 5)))) (gName 2))
  (tSeq (tAsg (tCB (gStr) (tCons (tVar 2) tNil)) (gName 3))
  (tSeq (tAsg (tOp (gIx K) (tLst (tCons (tC (.str ("" : Str))) (tCons (tC (.str ("" : Str))) (tCons (tC (.str ("0" : Str))) (tCons (tC (.str ("+" : Str))) (tCons (tC (.str ("-" : Str))) (tCons (tC (.str (" " : Str))) tNil))))))) (tOp (gMod) (tOp (gFdv) (tVar 0) (tC (.int 40))) (tC (.int 6)))) (gName 4))
  (tSeq (tAsg (tOp (gIx K) (tLst (tCons (tC (.str ("" : Str))) (tCons (tC (.str ("" : Str))) (tCons (tC (.str ("" : Str))) (tCons (tC (.str ("0" : Str))) (tCons (tC (.str (" " : Str))) (tCons (tC (.str (".0" : Str))) (tCons (tC (.str ("_1" : Str))) (tCons (tC (.str ("a" : Str))) tNil))))))))) (tOp (gMod) (tOp (gFdv) (tVar 0) (tC (.int 240))) (tC (.int 8)))) (gName 5))
  (tRet (tOp (gAdd K) (tOp (gAdd K) (tVar 4) (tVar 3)) (tVar 5)))))))

local macro_rules | `(tactic| walk_at "cy.side") => `(tactic| first | assumption | omega | decide | (simp only [List.length_map, List.length_cons, List.length_nil, List.length_append]; omega) | rfl)
local macro_rules | `(tactic| walk_at "cy.op") => `(tactic| first
  | exact d_addI | exact d_subI | exact d_ltI | exact d_leI | exact d_gtI | exact d_geI | exact d_eqI | exact d_neI | exact d_eqS | exact d_neS | exact d_leS | exact d_inC | exact d_niC
  | exact d_isN | exact d_niN | exact d_isB | exact d_pow9 | exact d_pow12 | exact d_pow6
  | exact d_fdv (by first | decide | omega) (by first | decide | omega) | exact d_mod (by first | decide | omega) | exact d_pow ⟨by decide, by decide, by decide⟩
  | exact d_mulI (Or.inl (by first | decide | omega)) | exact d_mulI (Or.inr (by first | decide | omega))
  | exact d_addS (by walk_at "cy.side") | exact d_ixL (by walk_at "cy.side") | exact d_ixT (by walk_at "cy.side") | exact d_ixR (by walk_at "cy.side") | exact d_ixS (by walk_at "cy.side") (by walk_at "cy.side")
  | exact d_ixLn (by walk_at "cy.side") (by walk_at "cy.side") | exact d_ixTn (by walk_at "cy.side") (by walk_at "cy.side") | exact d_ixRn (by walk_at "cy.side") (by walk_at "cy.side")
  | exact d_eqD (by walk_at "cy.side") (by walk_at "cy.side") | exact d_neD (by walk_at "cy.side") (by walk_at "cy.side"))
local macro_rules | `(tactic| walk_at "cy.n") => `(tactic| first
  | exact n_max2 | exact n_min2 | exact n_abs | exact n_lenL | exact n_lenT | exact n_lenR | exact n_lenS (by walk_at "cy.side") | exact n_reprB | exact n_reprN | exact n_reprI (by walk_at "cy.side") | exact n_all | exact n_any
  | exact n_strI (by walk_at "cy.side") | exact n_intS (by walk_at "cy.side") (by walk_at "cy.side"))
local macro_rules | `(tactic| walk_at "cy.s") => `(tactic| first
  | exact s_nil
  | (apply s_cons; walk_at "cy.e"; walk_at "cy.s"))
local macro_rules | `(tactic| walk_at "cy.p") => `(tactic| first
  | exact p_none
  | (apply p_some; walk_at "cy.e"))
local macro_rules | `(tactic| walk_at "cy.e") => `(tactic| first
  | assumption
  | exact e_var rfl
  | exact e_int | exact e_none | exact e_bl | exact e_str | exact e_dnew | exact e_disp1
  | (apply e_op; walk_at "cy.e"; walk_at "cy.e"; walk_at "cy.op")
  | (apply e_isi; walk_at "cy.e"; rfl; decide +kernel)
  | (apply e_cb; walk_at "cy.s"; walk_at "cy.n")
  | (apply e_chain; walk_at "cy.e"; walk_at "cy.e"; walk_at "cy.op"; (intro _; walk_at "cy.e"); (intro _; walk_at "cy.op"))
  | (apply e_tup; walk_at "cy.s"; walk_at "cy.side")
  | (apply e_share; apply o_lst; walk_at "cy.s"; walk_at "cy.side")
  | (apply e_slS; walk_at "cy.e"; walk_at "cy.p"; walk_at "cy.p"; walk_at "cy.side")
  | (apply e_share; apply o_sl; walk_at "cy.e"; walk_at "cy.p"; walk_at "cy.p")
  | (apply e_un; walk_at "cy.e"; exact op1_neg)
  | (apply e_notV; walk_at "cy.e")
  | (apply e_andV; walk_at "cy.e"; (intro _; walk_at "cy.e"))
  | (apply e_orV; walk_at "cy.e"; (intro _; walk_at "cy.e"))
  | (apply e_call; walk_at "cy.s"; walk_at "cy.side")
  | (apply e_share; apply o_call; walk_at "cy.s"; walk_at "cy.side"))
local macro_rules | `(tactic| walk_at "cy.t") => `(tactic| first
  | assumption
  | exact t_yes
  | (apply t_test; walk_at "cy.e")
  | (apply t_B; walk_at "cy.e")
  | (apply t_not; walk_at "cy.t")
  | (apply t_and; walk_at "cy.t"; (intro _; walk_at "cy.t"))
  | (apply t_or; walk_at "cy.t"; (intro _; walk_at "cy.t")))
local macro_rules | `(tactic| walk_at "cy.wk") => `(tactic| repeat (first | exact Wk.nil | apply Wk.keep | apply Wk.drop))

section
variable {K : PySem.W.Frag}
theorem rd_l_mixed (K : PySem.W.Frag) {ds : List D} {d : D} (h : R_l_mixed ds d) : StD K (t_l_mixed K) (args nm_l_mixed.length ds) (.rt d) := by
  obtain ⟨c, k, rfl, h0, h1, rfl⟩ := h
  have hb := m1_bd c k
  unfold t_l_mixed
  refine st_seq (st_asg (d := .int (m1 c k)) ?_ g_name) (st_ret (d := .int (mixed c k)) ?_)
  · unfold m1
    walk_at "cy.e"
  · unfold mixed
    generalize m1 c k = m at hb
    walk_at "cy.e"
theorem wipe1 {G : List Sl} {j : Nat} {d : Sl} : (wipeG G [j]).set j d = G.set j d := by
  show (G.set j .no).set j d = G.set j d
  rw [List.set_set]
theorem rd_l_number (K : PySem.W.Frag) {ds : List D} {d : D} (h : R_l_number ds d) : StD K (t_l_number K) (args nm_l_number.length ds) (.rt d) := by
  obtain ⟨ns, k, rfl, hl, h0, h1, rfl⟩ := h
  unfold t_l_number
  refine st_seq (st_asg e_int g_name) ?_
  by_cases hn : ns = []
  · subst hn
    refine st_pass (t_is (by walk_at "cy.t") (decide_eq_false (by simp))) (st_ret ?_)
    refine e_call (s_cons (e_var rfl) (s_cons (e_var rfl) s_nil)) ⟨0, k, rfl, h0, h1, ?_⟩
    unfold number
    rw [if_pos rfl]
  · have hp : 0 < ns.length := List.length_pos_iff.mpr hn
    have hp' : (0 : Int) < (ns.length : Int) := by omega
    have hm0 : 0 ≤ k % (ns.length : Int) := Int.emod_nonneg _ (by omega)
    have hm1 : k % (ns.length : Int) < (ns.length : Int) := Int.emod_lt_of_pos _ hp'
    have hix : ∀ i : Int, 0 ≤ i → i < (ns.length : Int) → atI ns i = some (ns.getD i.toNat 0) := fun i a b => by
      obtain ⟨j, rfl⟩ : ∃ j : Nat, i = (j : Int) := ⟨i.toNat, by omega⟩
      refine atI_nat ?_
      rw [Int.toNat_natCast, List.getD_eq_getElem?_getD, List.getElem?_eq_getElem (by omega)]
      rfl
    have hat := hix _ hm0 hm1
    have hat0 : atI ns 0 = some (ns.getD 0 0) := hix 0 (by omega) hp'
    generalize hc : ns.getD (k % (ns.length : Int)).toNat 0 = cell at hat
    have e1 : EvTt K (tTest (tOp gGt (tCB (rLen K) (tCons (tVar 0) tNil)) (tC (.int 0)))) ((args nm_l_number.length [.scr ns, .int k]).set 2 (.dat (.int 0))) true := t_is (by walk_at "cy.t") (decide_eq_true (by omega))
    by_cases ho : ns.getD 0 0 % 2 = 1
    · refine st_stop (o := .rt (.int (number ns k))) (st_if e1 (fun _ => ?_) (fun q => nomatch q)) (fun _ q => nomatch q)
      refine st_seq (st_asg (d := .int cell) (by walk_at "cy.e") g_name) ?_
      refine st_if (t_is (by walk_at "cy.t") (decide_eq_true ho)) (fun _ => ?_) (fun q => nomatch q)
      have hr : (min 60 (k / (ns.length : Int))) ≤ 60 := by omega
      have hq : 0 ≤ k / (ns.length : Int) := Int.ediv_nonneg h0 (by omega)
      refine st_seq (st_for (items := rngD 0 (min 60 (k / (ns.length : Int))).toNat) (it_rng1 (n := min 60 (k / (ns.length : Int))) (by walk_at "cy.s") (by omega))
        (fun i => [.dat (.scr ns), .dat (.int k), .dat (.int (dv i cell)), .no]) rfl
        (fun i => [.dat (.scr ns), .dat (.int k), .dat (.int (dv i cell)), .dat (.int (i : Int))]) (fun i d h => ?_)
        (fun i => .nx [.dat (.scr ns), .dat (.int k), .dat (.int (dv (i + 1) cell)), .dat (.int (i : Int))]) (fun i hi _ => ?_) (fun i hi => ?_) (fun _ => rfl)) ?_
      · have hd : d = .int (i : Int) := by
          unfold rngD at h
          rw [List.getElem?_map] at h
          cases hh : (List.range (min 60 (k / (ns.length : Int))).toNat)[i]? with
          | none =>
            rw [hh] at h
            cases h
          | some j =>
            rw [hh] at h
            have := (List.getElem?_eq_some_iff.mp hh)
            obtain ⟨h2, h3⟩ := this
            rw [List.getElem_range] at h3
            subst h3
            cases h
            show D.int (0 + (i : Int)) = _
            rw [Int.zero_add]
        rw [hd]
        exact g_name (i := 3)
      · exact st_asg (by walk_at "cy.e") (g_name (i := 2))
      · exact Or.inl ⟨_, Or.inl rfl, by walk_at "cy.wk"⟩
      · have hlen : (rngD 0 (min 60 (k / (ns.length : Int))).toNat).length = (min 60 (k / (ns.length : Int))).toNat := by
          unfold rngD
          rw [List.length_map, List.length_range]
        rw [hlen]
        refine st_ret ?_
        unfold number
        rw [if_neg hn, if_pos ho, hc]
        walk_at "cy.e"
    · refine st_seq (G1 := [.dat (.scr ns), .dat (.int k), .dat (.int cell), .no]) (st_if e1 (fun _ => ?_) (fun q => nomatch q)) (st_ret ?_)
      · refine st_seq (st_asg (d := .int cell) (by walk_at "cy.e") g_name) ?_
        exact st_if (t_is (by walk_at "cy.t") (decide_eq_false ho)) (fun q => nomatch q) (fun _ => st_next)
      · refine e_call (s_cons (e_var rfl) (s_cons (e_var rfl) s_nil)) ⟨cell, k, rfl, h0, h1, ?_⟩
        unfold number
        rw [if_neg hn, if_neg ho, hc]
theorem rd_is_among (K : PySem.W.Frag) {ds : List D} {d : D} (h : R_is_among ds d) : StD K (t_is_among K) (args nm_is_among.length ds) (.rt d) := by
  obtain ⟨x, a, b, rfl, hn, rfl⟩ := h
  unfold t_is_among
  have e1 : EvD K (tCB (rIsi K) (tCons (tVar 0) (tCons (tC (.ty "int")) tNil))) (args nm_is_among.length [x, .int a, .int b]) (.bl (isI x)) := e_isI (e_var rfl) hn
  have e2 : EvD K (tCB (rIsi K) (tCons (tVar 0) (tCons (tC (.ty "bool")) tNil))) (args nm_is_among.length [x, .int a, .int b]) (.bl (isB x)) := e_isB (e_var rfl) hn
  refine st_guard (t_or (t_not (t_B e1)) (fun _ => t_B e2)) (fun hx => st_ret ?_) (fun hx => st_ret ?_)
  · cases x <;> first | (cases hx; done) | exact e_bl
  · cases x <;> first | (cases hx; done) | skip
    rename_i i
    show EvD K _ _ (.bl (decide (a ≤ i) && decide (i ≤ b)))
    walk_at "cy.e"
/-- a text's signs, all of them tested -/
theorem all_signs {s : Str} (f : Nat → Bool) {G : List Sl} {te : TE} (hl : s.length ≤ 1000) (h0 : G[0]? = some (.dat (.str s))) (h1 : ∀ c, EvD K te (G.set 1 (.dat (.str ⟨#[c]⟩))) (.bl (f c))) :
    EvD K (tCB (rAll K) (tCons (tLc (iStr (tVar 0)) (gName 1) tYes te [1]) tNil)) G (.bl (s.cps.toList.all f)) := by
  have hs : (signs s).map (fun d => match d with | .str ⟨z⟩ => D.bl (f (z.getD 0 0)) | _ => .non) = (s.cps.toList.map f).map D.bl := by
    unfold signs
    rw [List.map_map, List.map_map]
    exact List.map_congr_left fun c _ => rfl
  have hall : s.cps.toList.all f = (s.cps.toList.map f).all id := by
    rw [List.all_map]
    rfl
  rw [hall]
  refine e_cb (s_cons (e_is (e_share (o_lcM (fun d => match d with | .str ⟨z⟩ => D.bl (f (z.getD 0 0)) | _ => .non) (it_str (e_var h0)) ?_ ?_)) (congrArg D.lst hs)) s_nil) n_all
  · unfold signs
    rw [List.length_map]
    show s.cps.toList.length ≤ 40000
    have : s.cps.toList.length = s.length := by simp [Str.length]
    omega
  · intro d hd
    unfold signs at hd
    obtain ⟨c, _, rfl⟩ := List.mem_map.mp hd
    rw [wipe1]
    exact h1 c
theorem le_chain {G : List Sl} {a b c : Nat} {x y : Str} (hx : x.cps.toList = [a]) (hy : y.cps.toList = [b]) (h1 : G[1]? = some (.dat (.str ⟨#[c]⟩))) : EvD K (tChain gLe gLe (tC (.str x)) (tVar 1) (tC (.str y))) G (.bl (decide (a ≤ c) && decide (c ≤ b))) := by
  refine e_is (e_chain e_str (e_var h1) d_leS (fun _ => e_str) (fun _ => d_leS)) ?_
  rw [hx, hy]
  show D.bl (!decide (([c] : List Nat) < [a]) && !decide (([b] : List Nat) < [c])) = _
  rw [le_sign, le_sign]
theorem asc_tab : ((List.range 128).all fun c => decide ((letter c = true ↔ (Unicode.isAlpha c = true ∧ Unicode.isUpper c = false ∧ Unicode.isTitle c = false)) ∧ (letter c = true → Unicode.isLower c = true))) = true := by decide +kernel
theorem asc_at {c : Nat} (h : c < 128) : (letter c = true ↔ (Unicode.isAlpha c = true ∧ Unicode.isUpper c = false ∧ Unicode.isTitle c = false)) ∧ (letter c = true → Unicode.isLower c = true) := of_decide_eq_true (List.all_eq_true.mp asc_tab c (List.mem_range.mpr h))
theorem letter_lt {c : Nat} (h : letter c = true) : c < 128 := by
  unfold letter at h
  rw [Bool.and_eq_true, decide_eq_true_iff, decide_eq_true_iff] at h
  omega
theorem low_is (z : Str) : (Txt.islower z && (Txt.isalpha z && Txt.isascii z)) = (decide (1 ≤ z.length) && z.cps.toList.all letter) := by
  have h1 : Txt.islower z = (z.cps.toList.any Unicode.isLower && !z.cps.toList.any fun c => Unicode.isUpper c || Unicode.isTitle c) := by
    unfold Txt.islower
    rw [Array.any_toList, Array.any_toList]
  have h2 : Txt.isalpha z = (decide (0 < z.length) && z.cps.toList.all Unicode.isAlpha) := by
    unfold Txt.isalpha
    rw [Array.all_toList]
  have h3 : Txt.isascii z = z.cps.toList.all fun c => decide (c < 128) := by
    unfold Txt.isascii
    rw [Array.all_toList]
  have hl : z.length = z.cps.toList.length := rfl
  rw [h1, h2, h3, hl]
  generalize z.cps.toList = l
  rw [Bool.eq_iff_iff]
  simp only [Bool.and_eq_true, Bool.not_eq_true', decide_eq_true_iff, List.all_eq_true, List.any_eq_true, List.any_eq_false, Bool.or_eq_true, not_or, Bool.not_eq_true]
  constructor
  · rintro ⟨⟨_, hu⟩, ⟨h0, ha⟩, hs⟩
    exact ⟨h0, fun c hc => (asc_at (hs c hc)).1.mpr ⟨ha c hc, hu c hc⟩⟩
  · rintro ⟨h0, hc⟩
    have hs : ∀ c ∈ l, c < 128 := fun c h => letter_lt (hc c h)
    refine ⟨⟨?_, fun c h => ((asc_at (hs c h)).1.mp (hc c h)).2⟩, ⟨h0, fun c h => ((asc_at (hs c h)).1.mp (hc c h)).1⟩, hs⟩
    cases l with
    | nil => exact absurd h0 (by decide)
    | cons c l => exact ⟨c, List.mem_cons_self, (asc_at (hs c List.mem_cons_self)).2 (hc c List.mem_cons_self)⟩
theorem e_tx {ta : TE} {G : List Sl} {f : Str → Bool} {a : Str} (h : EvD K ta G (.str a)) : EvD K (tM0 (rTx f) ta) G (.bl (f a)) := .mk fun {H0 F0 F H σ} E Q q =>
  h E _ fun v F1 H1 E1 f1 g1 n1 r1 => by
    cases r1
    exact ⟨⟨a, rfl⟩, a, rfl, rfl, trivial, q _ F1 H1 E1 f1 g1 n1 (.bl _)⟩
theorem rd_is_name (K : PySem.W.Frag) {ds : List D} {d : D} (h : R_is_name ds d) : StD K (t_is_name K) (args nm_is_name.length ds) (.rt d) := by
  obtain ⟨x, rfl, ⟨hn, hz⟩, rfl⟩ := h
  unfold t_is_name
  have e1 : EvD K (tCB (rIsi K) (tCons (tVar 0) (tCons (tC (.ty "str")) tNil))) (args nm_is_name.length [x]) (.bl (isS x)) := e_isS (e_var rfl) hn
  cases x with
  | str s =>
    have hl := (hz s rfl).1
    have e2 : EvTt K (tTest (tOp gGt (tCB (rLen K) (tCons (tVar 0) tNil)) (tC (.int 8)))) (args nm_is_name.length [.str s]) (decide ((8 : Int) < (s.length : Int))) := t_is (by walk_at "cy.t") rfl
    refine st_guard (t_or (t_not (t_B e1)) (fun _ => e2)) (fun hx => st_ret (e_is e_bl ?_)) (fun hx => st_ret (e_is (e_andV (e_tx (e_var rfl)) (fun _ => e_andV (e_tx (e_var rfl)) (fun _ => e_tx (e_var rfl)))) ?_))
    · have hx' : ¬ (1 ≤ s.length ∧ s.length ≤ 8) := by
        simp [isS] at hx
        omega
      show D.bl false = D.bl (decide (1 ≤ s.length ∧ s.length ≤ 8) && s.cps.toList.all letter)
      rw [decide_eq_false hx']
      rfl
    · have hx' : s.length ≤ 8 := by
        simp [isS] at hx
        omega
      show D.bl (Txt.islower s && (Txt.isalpha s && Txt.isascii s)) = D.bl (decide (1 ≤ s.length ∧ s.length ≤ 8) && s.cps.toList.all letter)
      rw [low_is]
      congr 2
      exact decide_eq_decide.mpr ⟨fun z => ⟨z, hx'⟩, fun z => z.1⟩
  | _ => exact st_guard (x := true) (t_or (y := true) (t_not (t_B e1)) (fun q => nomatch q)) (fun _ => st_ret e_bl) (fun q => nomatch q)
end

section
theorem str_one {a c : Nat} {x : Str} (hx : x.cps.toList = [a]) : decide ((⟨#[c]⟩ : Str) = x) = decide (c = a) := by
  by_cases h : c = a
  · rw [decide_eq_true h, decide_eq_true]
    subst h
    exact ext_tl hx.symm
  · rw [decide_eq_false h, decide_eq_false]
    intro e
    subst e
    have : [c] = [a] := hx
    cases this
    exact h rfl
theorem str_lst {s x : Str} : decide (s = x) = decide (s.cps.toList = x.cps.toList) := by
  by_cases h : s = x
  · rw [decide_eq_true h, decide_eq_true (by rw [h])]
  · rw [decide_eq_false h, decide_eq_false (fun q => h (ext_tl q))]
theorem len_cps (s : Str) : s.cps.toList.length = s.length := by simp [Str.length]
theorem digs_all {l : List Nat} (h : l.all digit = true) : NumText.AllDigits l := fun c hc => by
  have := List.all_eq_true.mp h c hc
  unfold digit at this
  simp at this
  exact this
theorem rd_number_of (K : PySem.W.Frag) {ds : List D} {d : D} (h : R_number_of ds d) : StD K (t_number_of K) (args nm_number_of.length ds) (.rt d) := by
  obtain ⟨x, rfl, ⟨hn, hz⟩, rfl⟩ := h
  unfold t_number_of
  have e1 : EvD K (tCB (rIsi K) (tCons (tVar 0) (tCons (tC (.ty "str")) tNil))) (args nm_number_of.length [x]) (.bl (isS x)) := e_isS (e_var rfl) hn
  cases x with
  | str s =>
    have hl := (hz s rfl).1
    have hcp := (hz s rfl).2
    refine st_guard (t_or (t_not (t_B e1)) (fun _ => by walk_at "cy.t")) (fun hx => st_ret (e_is e_none ?_)) (fun hx => ?_)
    · simp [isS] at hx
      show _ = numS s
      unfold numS
      rw [if_neg (by omega)]
    have hx : 1 ≤ s.length ∧ s.length ≤ 13 := by
      simp [isS] at hx
      omega
    have hlen := len_cps s
    refine st_guard (t_not (t_B (all_signs digit hl rfl fun c => le_chain rfl rfl rfl))) (fun hy => st_ret (e_is e_none ?_)) (fun hy => ?_)
    · simp only [Bool.not_eq_true'] at hy
      show _ = numS s
      unfold numS
      rw [if_neg (by rw [hy]; simp)]
    have hy : s.cps.toList.all digit = true := by simpa using hy
    obtain ⟨c, r, hc⟩ : ∃ c r, s.cps.toList = c :: r := by
      cases q : s.cps.toList with
      | nil =>
        rw [q] at hlen
        simp at hlen
        omega
      | cons c r => exact ⟨c, r, rfl⟩
    have hat : atI s.cps.toList 0 = some c := by
      rw [hc]
      exact atI_nat (j := 0) rfl
    refine st_guard (t_and (t_test (e_op (e_op (e_var rfl) e_int (d_ixS (by omega) hat)) e_str d_eqS)) (fun _ => t_test (e_op (e_var rfl) e_str d_neS))) (fun hw => st_ret (e_is e_none ?_)) (fun hw => ?_)
    · rw [str_one (a := 48) rfl, str_lst] at hw
      rw [Bool.and_eq_true] at hw
      obtain ⟨hw1, hw2⟩ := hw
      have hw1 := of_decide_eq_true hw1
      have hw2 : ¬ s.cps.toList = ("0" : Str).cps.toList := by simpa only [Bool.not_eq_true', decide_eq_false_iff_not] using hw2
      show _ = numS s
      unfold numS
      rw [if_neg]
      rintro ⟨_, _, _, h4, _⟩
      apply h4
      rw [hc]
      subst hw1
      refine ⟨rfl, fun q => hw2 ?_⟩
      rw [hc]
      exact q
    have hw : ¬ (s.cps.toList.head? = some 48 ∧ s.cps.toList ≠ [48]) := by
      rw [str_one (a := 48) rfl, str_lst] at hw
      rintro ⟨q1, q2⟩
      rw [hc] at q1
      cases q1
      have e2 : decide (s.cps.toList = ("0" : Str).cps.toList) = false := decide_eq_false q2
      rw [e2] at hw
      simp at hw
    have hint := PySem.intText_digits (x := s) (digs_all hy) (by rw [hc]; simp) (by omega)
    refine st_seq (st_asg (d := .int (NumText.digitsVal s.cps.toList : Nat)) (e_cb (s_cons (e_var rfl) s_nil) (n_intS hint (by omega))) g_name) ?_
    refine st_guard (by walk_at "cy.t") (fun hg => st_ret (e_is e_none ?_)) (fun hg => st_ret (e_is (e_var rfl) ?_))
    · simp at hg
      show _ = numS s
      unfold numS
      rw [if_neg (by omega)]
    · simp at hg
      show _ = numS s
      unfold numS
      rw [if_pos ⟨hx.1, hx.2, hy, hw, by omega⟩]
  | _ => exact st_guard (x := true) (t_or (y := true) (t_not (t_B e1)) (fun q => nomatch q)) (fun _ => st_ret e_none) (fun q => nomatch q)
theorem val_step {l : List Nat} {i : Nat} {c : Nat} (h : l[i]? = some c) (hc : 48 ≤ c) : ((NumText.digitsVal (l.take (i + 1)) : Nat) : Int) = 10 * ((NumText.digitsVal (l.take i) : Nat) : Int) + ((c - 48 : Nat) : Int) := by
  rw [List.take_add_one, h]
  show ((NumText.digitsVal (l.take i ++ [c]) : Nat) : Int) = _
  rw [NumText.digitsVal_snoc]
  omega
theorem occ_digit : ∀ c : Nat, 48 ≤ c → c ≤ 57 → Builtin.Str.occurrences "0123456789" ⟨#[c]⟩ 0 ("0123456789" : Str).length 1 = [c - 48] := by
  intro c h1 h2
  have : c = 48 ∨ c = 49 ∨ c = 50 ∨ c = 51 ∨ c = 52 ∨ c = 53 ∨ c = 54 ∨ c = 55 ∨ c = 56 ∨ c = 57 := by omega
  rcases this with rfl | rfl | rfl | rfl | rfl | rfl | rfl | rfl | rfl | rfl <;> decide +kernel
theorem in_digits (c : Nat) : decide (c ∈ ("0123456789" : Str).cps.toList) = digit c := by
  have e : ("0123456789" : Str).cps.toList = [48, 49, 50, 51, 52, 53, 54, 55, 56, 57] := by decide +kernel
  rw [e]
  unfold digit
  by_cases h : 48 ≤ c ∧ c ≤ 57
  · rw [decide_eq_true h.1, decide_eq_true h.2, decide_eq_true]
    · rfl
    · simp
      omega
  · have h3 : (decide (48 ≤ c) && decide (c ≤ 57)) = false := by
      simp
      omega
    rw [h3, decide_eq_false]
    simp
    omega
/-- the figures of a number, and back -/
theorem canon {l : List Nat} (h : NumText.AllDigits l) (hn : l ≠ []) : numL (NumText.digitsVal l) = l ↔ ¬ (l.head? = some 48 ∧ l ≠ [48]) := by
  constructor
  · rintro e ⟨h1, h2⟩
    by_cases hv : NumText.digitsVal l < 10
    · rw [numL_lt hv] at e
      rw [← e] at h1 h2
      simp at h1
      rw [h1] at h2
      exact h2 rfl
    · have : ∀ n : Nat, 1 ≤ n → (numL n).head? ≠ some 48 := by
        intro n
        induction n using Nat.strongRecOn with
        | _ n ih =>
          intro hn
          by_cases hv : n < 10
          · rw [numL_lt hv]
            simp
            omega
          · rw [numL_step (by omega)]
            have hne := numL_ne (n / 10)
            cases q : numL (n / 10) with
            | nil => exact absurd q hne
            | cons a r =>
              have := ih (n / 10) (by omega) (by omega)
              rw [q] at this
              simpa using this
      have h3 := this (NumText.digitsVal l) (by omega)
      rw [e] at h3
      exact h3 h1
  · intro hc
    have := NumText.toDigits_digitsVal (l.length - 1) l (by
      have := List.length_pos_iff.mpr hn
      omega) h (by
      cases l with
      | nil => exact absurd rfl hn
      | cons a r =>
        by_cases ha : a = 48
        · subst ha
          left
          have : (48 :: r : List Nat) = [48] := by
            by_cases q : (48 :: r : List Nat) = [48]
            · exact q
            · exact absurd ⟨rfl, q⟩ hc
          rw [this]
          rfl
        · right
          have := h.head
          exact ⟨a, r, rfl, by omega⟩)
    unfold numL
    rw [this, List.map_map]
    have : ∀ c ∈ l, (Char.toNat ∘ Char.ofNat) c = c := fun c hc' => by
      have hd := h c hc'
      show (Char.ofNat c).toNat = c
      have : c = 48 ∨ c = 49 ∨ c = 50 ∨ c = 51 ∨ c = 52 ∨ c = 53 ∨ c = 54 ∨ c = 55 ∨ c = 56 ∨ c = 57 := by omega
      rcases this with rfl | rfl | rfl | rfl | rfl | rfl | rfl | rfl | rfl | rfl <;> decide
    rw [List.map_congr_left this]
    simp
theorem digitsVal_lt : ∀ (l : List Nat), NumText.AllDigits l → NumText.digitsVal l < 10 ^ l.length := by
  intro l
  intro h0
  suffices H : ∀ (n : Nat) (l : List Nat), l.length = n → NumText.AllDigits l → NumText.digitsVal l < 10 ^ l.length from H _ l rfl h0
  intro n
  induction n with
  | zero =>
    intro l hl _
    rw [List.length_eq_zero_iff.mp hl]
    decide
  | succ n ih =>
    intro m hm h
    obtain ⟨l, c, rfl⟩ : ∃ l c, m = l ++ [c] := ⟨m.dropLast, m.getLast (by intro q; rw [q] at hm; simp at hm), (List.dropLast_concat_getLast _).symm⟩
    have ih := ih l (by simpa using hm)
    rw [NumText.digitsVal_snoc, List.length_append, List.length_singleton, Nat.pow_succ]
    have h1 := ih (fun d hd => h d (List.mem_append_left _ hd))
    have h2 := h c (List.mem_append_right _ List.mem_cons_self)
    omega
end

section
theorem signs_get {s : Str} {i : Nat} {d : D} (h : (signs s)[i]? = some d) : ∃ c, s.cps.toList[i]? = some c ∧ d = .str ⟨#[c]⟩ := by
  unfold signs at h
  rw [List.getElem?_map] at h
  cases q : s.cps.toList[i]? with
  | none =>
    rw [q] at h
    cases h
  | some c =>
    rw [q] at h
    cases h
    exact ⟨c, rfl, rfl⟩
theorem rd_l_number_of (K : PySem.W.Frag) {ds : List D} {d : D} (h : R_l_number_of ds d) : StD K (t_l_number_of K) (args nm_l_number_of.length ds) (.rt d) := by
  obtain ⟨x, rfl, ⟨hn, hz⟩, rfl⟩ := h
  unfold t_l_number_of
  have e1 : EvD K (tCB (rIsi K) (tCons (tVar 0) (tCons (tC (.ty "str")) tNil))) (args nm_l_number_of.length [x]) (.bl (isS x)) := e_isS (e_var rfl) hn
  cases x with
  | str s =>
    have hl := (hz s rfl).1
    have hcp := (hz s rfl).2
    have hlen := len_cps s
    refine st_guard (t_or (t_not (t_B e1)) (fun _ => t_or (by walk_at "cy.t") (fun _ => by walk_at "cy.t"))) (fun hx => st_ret (e_is e_none ?_)) (fun hx => ?_)
    · have hx' : s.length = 0 ∨ 13 < s.length := by
        rw [str_lst] at hx
        simp [isS] at hx
        rcases hx with q | q
        · left
          unfold Str.length
          rw [q]
          decide +kernel
        · right
          omega
      show _ = numS s
      unfold numS
      rw [if_neg (by omega)]
    have hx : 1 ≤ s.length ∧ s.length ≤ 13 := by
      rw [str_lst] at hx
      simp only [isS, Bool.not_true, Bool.false_or, Bool.or_eq_false_iff, decide_eq_false_iff_not] at hx
      obtain ⟨q1, q2⟩ := hx
      constructor
      · cases z : s.cps.toList with
        | nil =>
          rw [z] at q1
          exact absurd (by decide +kernel) q1
        | cons c r =>
          rw [z] at hlen
          simp at hlen
          omega
      · omega
    refine st_seq (st_asg e_int g_name) ?_
    have hsl : (signs s).length = s.length := by
      unfold signs
      rw [List.length_map]
      exact hlen
    -- the loop
    have loop : ∀ o : Out, (∀ i, i < s.length → (∀ j, j < i → digit (s.cps.toList.getD j 0) = true) → digit (s.cps.toList.getD i 0) = false → o = .rt .non) →
        ((∀ i, i < s.length → digit (s.cps.toList.getD i 0) = true) → o = .nx [.dat (.str s), .dat (.int (NumText.digitsVal s.cps.toList : Nat)), .no]) →
        StD K (tFor (iStr (tVar 0)) (gName 2) (tSeq (tIfS (tTest (tOp (gNi K) (tVar 2) (tC (.str ("0123456789" : Str))))) (tRet (tC .non)) tNext)
          (tAsg (tOp (gAdd K) (tOp (gMul) (tC (.int 10)) (tVar 1)) (tM1 rSIndex (tC (.str ("0123456789" : Str))) (tVar 2))) (gName 1)))) [.dat (.str s), .dat (.int 0), .no] o := by
      intro o ho1 ho2
      have hgd : ∀ {i : Nat} {c : Nat}, s.cps.toList[i]? = some c → s.cps.toList.getD i 0 = c := fun {i c} h => by
        rw [List.getD_eq_getElem?_getD, h]
        rfl
      refine st_for (items := signs s) (it_str (e_var rfl)) (fun i => [.dat (.str s), .dat (.int (NumText.digitsVal (s.cps.toList.take i) : Nat)), .no]) rfl
        (fun i => [.dat (.str s), .dat (.int (NumText.digitsVal (s.cps.toList.take i) : Nat)), .dat (.str ⟨#[s.cps.toList.getD i 0]⟩)]) (fun i d h => ?_)
        (fun i => if digit (s.cps.toList.getD i 0) = true then .nx [.dat (.str s), .dat (.int (NumText.digitsVal (s.cps.toList.take (i + 1)) : Nat)), .dat (.str ⟨#[s.cps.toList.getD i 0]⟩)] else .rt .non)
        (fun i hi hp => ?_) (fun i hi => ?_) (fun hall => ?_)
      · obtain ⟨c, hc, rfl⟩ := signs_get h
        rw [hgd hc]
        exact g_name (i := 2)
      · rw [hsl] at hi
        obtain ⟨c, hc⟩ : ∃ c, s.cps.toList[i]? = some c := ⟨_, List.getElem?_eq_getElem (by omega)⟩
        rw [hgd hc]
        have e2 : EvTt K (tTest (tOp (gNi K) (tVar 2) (tC (.str ("0123456789" : Str))))) [.dat (.str s), .dat (.int (NumText.digitsVal (s.cps.toList.take i) : Nat)), .dat (.str ⟨#[c]⟩)] (!digit c) := t_is (t_test (e_op (e_var rfl) e_str d_niC)) (by rw [in_digits])
        by_cases hd : digit c = true
        · rw [if_pos hd]
          refine st_pass (t_is e2 (by rw [hd]; rfl)) ?_
          have hcd : 48 ≤ c ∧ c ≤ 57 := by
            unfold digit at hd
            simp at hd
            exact hd
          rw [val_step hc hcd.1]
          exact st_asg (e_op (e_op e_int (e_var rfl) (d_mulI (Or.inl (by decide)))) (e_sindex e_str (e_var rfl) (occ_digit c hcd.1 hcd.2)) d_addI) (g_name (i := 1))
        · rw [if_neg hd]
          have hd' : digit c = false := by simpa using hd
          exact st_stop (st_if (x := true) (t_is e2 (by rw [hd']; rfl)) (fun _ => st_ret e_none) (fun q => by cases q)) (fun _ q => by cases q)
      · rw [hsl] at hi
        by_cases hd : digit (s.cps.toList.getD i 0) = true
        · left
          rw [if_pos hd]
          exact ⟨_, Or.inl rfl, by walk_at "cy.wk"⟩
        · right
          rw [if_neg hd]
          refine Or.inl ⟨_, rfl, ?_⟩
          -- the first that is none
          have hd' : digit (s.cps.toList.getD i 0) = false := by simpa using hd
          have first : ∀ n i, i ≤ n → i < s.length → digit (s.cps.toList.getD i 0) = false → o = .rt .non := by
            intro n
            induction n with
            | zero =>
              intro i hi0 his hdi
              exact ho1 i his (fun j hj => absurd hj (by omega)) hdi
            | succ n ih =>
              intro i hi0 his hdi
              by_cases hex : ∃ j, j < i ∧ digit (s.cps.toList.getD j 0) = false
              · obtain ⟨j, hj, hjd⟩ := hex
                exact ih j (by omega) (by omega) hjd
              · refine ho1 i his (fun j hj => ?_) hdi
                cases q : digit (s.cps.toList.getD j 0) with
                | true => rfl
                | false => exact absurd ⟨j, hj, q⟩ hex
          exact first i i (Nat.le_refl i) hi hd'
      · rw [hsl] at hall ⊢
        have hall' : ∀ i, i < s.length → digit (s.cps.toList.getD i 0) = true := fun i hi => by
          obtain ⟨C', hc, _⟩ := hall i hi
          by_cases hd : digit (s.cps.toList.getD i 0) = true
          · exact hd
          · rw [if_neg hd] at hc
            rcases hc with q | q <;> cases q
        rw [ho2 hall']
        have : s.cps.toList.take s.length = s.cps.toList := List.take_of_length_le (by omega)
        rw [this]
    by_cases hd : s.cps.toList.all digit = true
    · have hall : ∀ i, i < s.length → digit (s.cps.toList.getD i 0) = true := fun i hi => List.all_eq_true.mp hd _ (getD_in 0 _ _ (by omega))
      have hne : s.cps.toList ≠ [] := fun q => by
        rw [q] at hlen
        simp at hlen
        omega
      have hv := digitsVal_lt _ (digs_all hd)
      have hv2 : NumText.digitsVal s.cps.toList < 10 ^ 13 := by
        refine Nat.lt_of_lt_of_le hv (Nat.pow_le_pow_right (by decide) (by omega))
      refine st_seq (loop _ (fun i hi _ hf => by rw [hall i hi] at hf; cases hf) (fun _ => rfl)) (st_ret ?_)
      have hlog : ((NumText.digitsVal s.cps.toList : Nat) : Int).natAbs.log2 < 1920 := by
        show (NumText.digitsVal s.cps.toList).log2 < 1920
        have := PySem.Flt.log2_lt_of (k := 64) (n := NumText.digitsVal s.cps.toList) (by decide) (by omega)
        omega
      have e3 : EvTt K (tTest (tOp (gEq K) (tCB (gStr) (tCons (tVar 1) tNil)) (tVar 0))) [.dat (.str s), .dat (.int (NumText.digitsVal s.cps.toList : Nat)), .no] (decide (numL (NumText.digitsVal s.cps.toList) = s.cps.toList)) := by
        refine t_is (t_test (e_op (e_cb (s_cons (e_var rfl) s_nil) (n_strI hlog)) (e_var rfl) d_eqS)) ?_
        rw [str_lst]
        rw [show (Str.ofString (toString ((NumText.digitsVal s.cps.toList : Nat) : Int))).cps.toList = numL (NumText.digitsVal s.cps.toList) from tl_num _]
      have hcan := canon (digs_all hd) hne
      by_cases hk : ¬ (s.cps.toList.head? = some 48 ∧ s.cps.toList ≠ [48]) ∧ NumText.digitsVal s.cps.toList ≤ 1000000000000
      · refine e_if (x := true) (t_is (t_and e3 (fun _ => by walk_at "cy.t")) ?_) (fun _ => e_is (e_var rfl) ?_) (fun q => nomatch q)
        · rw [decide_eq_true (hcan.mpr hk.1), decide_eq_true (by omega)]
          rfl
        · show _ = numS s
          unfold numS
          rw [if_pos ⟨hx.1, hx.2, hd, hk.1, hk.2⟩]
      · refine e_if (x := false) (t_is (t_and e3 (fun _ => by walk_at "cy.t")) ?_) (fun q => nomatch q) (fun _ => e_is e_none ?_)
        · by_cases h1 : ¬ (s.cps.toList.head? = some 48 ∧ s.cps.toList ≠ [48])
          · have h2 : ¬ NumText.digitsVal s.cps.toList ≤ 1000000000000 := fun q => hk ⟨h1, q⟩
            rw [decide_eq_false (p := _ ≤ _) (by omega)]
            exact Bool.and_false _
          · rw [decide_eq_false (fun q => h1 (hcan.mp q))]
            rfl
        · show _ = numS s
          unfold numS
          rw [if_neg (fun q => hk ⟨q.2.2.2.1, q.2.2.2.2⟩)]
    · have hex : ∃ i, i < s.length ∧ digit (s.cps.toList.getD i 0) = false := by
        have hd' : s.cps.toList.all digit = false := by simpa using hd
        obtain ⟨c, hc, hc2⟩ := List.all_eq_false.mp hd'
        obtain ⟨i, hi⟩ := List.mem_iff_getElem?.mp hc
        refine ⟨i, ?_, ?_⟩
        · have := (List.getElem?_eq_some_iff.mp hi).1
          omega
        · rw [List.getD_eq_getElem?_getD, hi]
          simpa using hc2
      obtain ⟨i, hi, hid⟩ := hex
      refine st_is (st_stop (loop (.rt .non) (fun _ _ _ _ => rfl) (fun hall => ?_)) (fun _ q => nomatch q)) ?_
      · rw [hall i hi] at hid
        cases hid
      · have : numS s = .non := by
          unfold numS
          rw [if_neg (fun q => hd q.2.2.1)]
        show Out.rt .non = Out.rt (numS s)
        rw [this]
  | _ => exact st_guard (x := true) (t_or (y := true) (t_not (t_B e1)) (fun q => nomatch q)) (fun _ => st_ret e_none) (fun q => nomatch q)
theorem rd_l_is_name (K : PySem.W.Frag) {ds : List D} {d : D} (h : R_l_is_name ds d) : StD K (t_l_is_name K) (args nm_l_is_name.length ds) (.rt d) := by
  obtain ⟨x, rfl, ⟨hn, hz⟩, rfl⟩ := h
  unfold t_l_is_name
  have e1 : EvD K (tCB (rIsi K) (tCons (tVar 0) (tCons (tC (.ty "str")) tNil))) (args nm_l_is_name.length [x]) (.bl (isS x)) := e_isS (e_var rfl) hn
  cases x with
  | str s =>
    have hl := (hz s rfl).1
    have hcp := (hz s rfl).2
    have hlen := len_cps s
    refine st_guard (t_or (t_not (t_B e1)) (fun _ => by walk_at "cy.t")) (fun hx => st_ret (e_is e_bl ?_)) (fun hx => st_ret ?_)
    · have hx' : ¬ (1 ≤ s.length ∧ s.length ≤ 8) := by
        simp [isS] at hx
        omega
      show D.bl false = D.bl (decide (1 ≤ s.length ∧ s.length ≤ 8) && s.cps.toList.all letter)
      rw [decide_eq_false hx']
      rfl
    · have hx' : (1 ≤ s.length ∧ s.length ≤ 8) := by
        simp [isS] at hx
        omega
      have hf : ∀ d ∈ signs s, EvTt K (tNot (tTest (tChain gLe gLe (tC (.str ("a" : Str))) (tVar 1) (tC (.str ("z" : Str)))))) ((wipeG (args nm_l_is_name.length [.str s]) [1]).set 1 (.dat d)) (match d with | .str ⟨z⟩ => !letter (z.getD 0 0) | _ => false) := by
        intro d hd
        unfold signs at hd
        obtain ⟨c, _, rfl⟩ := List.mem_map.mp hd
        rw [wipe1]
        exact t_not (t_test (le_chain rfl rfl rfl))
      have hlst := o_lcF (K := K) (te := tVar 1) (fun d => match d with | .str ⟨z⟩ => !letter (z.getD 0 0) | _ => false) id (it_str (K := K) (G := args nm_l_is_name.length [.str s]) (e_var (i := 0) rfl)) (by unfold signs; rw [List.length_map]; omega) hf
        (fun d hd _ => by rw [wipe1]; exact e_var rfl)
      have hfil : ((signs s).filter (fun d => match d with | .str ⟨z⟩ => !letter (z.getD 0 0) | _ => false)).map id = (s.cps.toList.filter (fun c => !letter c)).map (fun c => D.str ⟨#[c]⟩) := by
        unfold signs
        rw [List.filter_map, List.map_map]
        rfl
      rw [hfil] at hlst
      have hok : okEq (.lst ((s.cps.toList.filter (fun c => !letter c)).map fun c => D.str ⟨#[c]⟩)) = true := by
        refine ok_eq (n := 1) ?_ (by decide)
        unfold okD
        refine List.all_eq_true.mpr fun d hd => ?_
        obtain ⟨c, hc, rfl⟩ := List.mem_map.mp hd
        have := hcp c (List.mem_filter.mp hc).1
        unfold okD PyData.strOk
        simp [this]
      have hok0 : okEq (.lst []) = true := ok_eq (n := 1) (by unfold okD; rfl) (by decide)
      refine e_is (e_op (e_share hlst) (e_share (o_lst s_nil (by decide))) (d_eqD hok hok0)) ?_
      · show _ = D.bl (decide (1 ≤ s.length ∧ s.length ≤ 8) && s.cps.toList.all letter)
        rw [decide_eq_true hx', Bool.true_and]
        congr 1
        cases q : s.cps.toList.filter (fun c => !letter c) with
        | nil =>
          have h1 : s.cps.toList.all letter = true := by
            refine List.all_eq_true.mpr fun c hc => ?_
            cases z : letter c with
            | true => rfl
            | false =>
              have : c ∈ s.cps.toList.filter (fun c => !letter c) := List.mem_filter.mpr ⟨hc, by rw [z]; rfl⟩
              rw [q] at this
              cases this
          rw [h1]
          unfold eqD
          simp only [List.map_nil, toP, toPs, PyData.eqv, PyData.eqvAll]
        | cons c r =>
          have h1 : s.cps.toList.all letter = false := by
            refine List.all_eq_false.mpr ⟨c, ?_, ?_⟩
            · have : c ∈ s.cps.toList.filter (fun c => !letter c) := by
                rw [q]
                exact List.mem_cons_self
              exact (List.mem_filter.mp this).1
            · have : c ∈ s.cps.toList.filter (fun c => !letter c) := by
                rw [q]
                exact List.mem_cons_self
              have := (List.mem_filter.mp this).2
              simpa using this
          rw [h1]
          unfold eqD
          simp only [List.map_cons, toP, toPs, PyData.eqv, PyData.eqvAll]
  | _ => exact st_guard (x := true) (t_or (y := true) (t_not (t_B e1)) (fun q => nomatch q)) (fun _ => st_ret e_bl) (fun q => nomatch q)
end

section
def LET : List Nat := ("abcdefghijklmnopqrstuvwxyz" : Str).cps.toList
theorem LET_len : LET.length = 26 := by decide +kernel
theorem LET_ok : ∀ c ∈ LET, c < 1114112 := by decide +kernel
def sigs : List Nat := ("AZ09 -_.'#[^~@{`Q/" : Str).cps.toList
theorem sigs_len : sigs.length = 18 := by decide +kernel
theorem sigs_ok : ∀ c ∈ sigs, c < 1114112 := by decide +kernel
theorem range_mapD (n : Nat) (v : D → D) : (rngD 0 n).map v = (List.range n).map fun (i : Nat) => v (.int (i : Int)) := by
  unfold rngD
  rw [List.map_map]
  refine List.map_congr_left fun i _ => ?_
  show v (.int (0 + (i : Int))) = v (.int (i : Int))
  rw [Int.zero_add]
theorem rngD_mem {lo : Int} {n : Nat} {d : D} (h : d ∈ rngD lo n) : ∃ i : Nat, i < n ∧ d = .int (lo + (i : Int)) := by
  unfold rngD at h
  obtain ⟨i, hi, rfl⟩ := List.mem_map.mp h
  exact ⟨i, List.mem_range.mp hi, rfl⟩
theorem rngD_get {lo : Int} {n i : Nat} {d : D} (h : (rngD lo n)[i]? = some d) : i < n ∧ d = .int (lo + (i : Int)) := by
  unfold rngD at h
  rw [List.getElem?_map] at h
  cases q : (List.range n)[i]? with
  | none =>
    rw [q] at h
    cases h
  | some j =>
    rw [q] at h
    obtain ⟨h2, h3⟩ := List.getElem?_eq_some_iff.mp q
    rw [List.getElem_range] at h3
    subst h3
    cases h
    rw [List.length_range] at h2
    exact ⟨h2, rfl⟩
theorem rngD_len {lo : Int} {n : Nat} : (rngD lo n).length = n := by
  unfold rngD
  rw [List.length_map, List.length_range]
theorem wipe1' : True := trivial
theorem text_ex (K : PySem.W.Frag) (c k : Int) (h0 : 0 ≤ c) (hk : 0 ≤ k ∧ k ≤ 1000) : ∃ s : Str, okS s 21 ∧ StD K (t_l_text K) (args nm_l_text.length [.int c, .int k]) (.rt (.str s)) := by
  have hn0 : 0 ≤ c / 8 % 11 := Int.emod_nonneg _ (by decide)
  have hn1 : c / 8 % 11 < 11 := Int.emod_lt_of_pos _ (by decide)
  generalize hn : c / 8 % 11 = n at hn0 hn1
  have ha0 : 0 ≤ c / 100 % (n + 1) := Int.emod_nonneg _ (by omega)
  have ha1 : c / 100 % (n + 1) < n + 1 := Int.emod_lt_of_pos _ (by omega)
  have hs0 : 0 ≤ c / 2000 % 18 := Int.emod_nonneg _ (by decide)
  have hs1 : c / 2000 % 18 < 18 := Int.emod_lt_of_pos _ (by decide)
  let g : Int → Nat := fun j => LET.getD ((mixed c (k + j)) / 5 % 26).toNat 0
  have hg : ∀ j, g j < 1114112 := fun j => LET_ok _ (getD_in 0 _ _ (by
    rw [LET_len]
    have h1 : mixed c (k + j) / 5 % 26 < 26 := Int.emod_lt_of_pos _ (by decide)
    omega))
  let ys : List Str := (List.range n.toNat).map fun (i : Nat) => ⟨#[g (i : Int)]⟩
  have hys : okS (Txt.join ("" : Str) ys) 10 := by
    refine okS_join (fun y hy => ?_) ?_
    · obtain ⟨i, _, rfl⟩ := List.mem_map.mp hy
      exact okS_one (hg _)
    · show ((List.range n.toNat).map fun (i : Nat) => (⟨#[g (i : Int)]⟩ : Str)).length ≤ 10
      rw [List.length_map, List.length_range]
      omega
  have hsg : sigs.getD (c / 2000 % 18).toNat 0 < 1114112 := sigs_ok _ (getD_in 0 _ _ (by rw [sigs_len]; omega))
  generalize hsig : sigs.getD (c / 2000 % 18).toNat 0 = sg at hsg
  -- up to the branches
  have run : ∀ o, StD K (tSeq (tIfS (tTest (tOp (gEq K) (tOp (gMod) (tVar 0) (tC (.int 4))) (tC (.int 1)))) (tRet (tOp (gAdd K) (tOp (gAdd K) (tSl (gSl K) (tVar 4) tNoPart (tPart (tVar 6))) (tVar 7)) (tSl (gSl K) (tVar 4) (tPart (tVar 6)) tNoPart))) tNext)
      (tRet (tIf (tTest (tOp (gEq K) (tOp (gMod) (tVar 0) (tC (.int 4))) (tC (.int 2)))) (tOp (gAdd K) (tOp (gAdd K) (tSl (gSl K) (tVar 4) tNoPart (tPart (tVar 6))) (tVar 7)) (tSl (gSl K) (tVar 4) (tPart (tOp (gAdd K) (tVar 6) (tC (.int 1)))) tNoPart)) (tVar 4))))
        [.dat (.int c), .dat (.int k), .dat (.str "abcdefghijklmnopqrstuvwxyz"), .dat (.int n), .dat (.str (Txt.join ("" : Str) ys)), .no, .dat (.int (c / 100 % (n + 1))), .dat (.str ⟨#[sg]⟩)] o → StD K (t_l_text K) (args nm_l_text.length [.int c, .int k]) o := by
    intro o ho
    unfold t_l_text
    refine st_seq (st_asg e_str g_name) (st_seq (st_asg (d := .int n) ?_ g_name) (st_seq (st_asg (d := .str (Txt.join ("" : Str) ys)) ?_ g_name) (st_seq (st_asg (d := .int (c / 100 % (n + 1))) ?_ g_name) (st_seq (st_asg (d := .str ⟨#[sg]⟩) ?_ g_name) ho))))
    · rw [← hn]
      walk_at "cy.e"
    · refine e_join e_str (e_is (e_share (o_lcM (fun d => match d with | .int j => .str ⟨#[g j]⟩ | _ => .non) (it_rng1 (n := n) (by walk_at "cy.s") (by omega)) (by rw [rngD_len]; omega) fun d hd => ?_)) ?_) ?_
      · obtain ⟨i, hi, rfl⟩ := rngD_mem hd
        rw [wipe1]
        refine e_op (e_var rfl) (e_op (e_op (e_call (s_cons (e_var rfl) (s_cons (e_op (e_var rfl) (e_var rfl) d_addI) s_nil)) ⟨c, k + (0 + (i : Int)), rfl, by omega, by omega, rfl⟩) e_int (d_fdv (by decide) (by decide))) e_int (d_mod (by decide))) ?_
        refine d_ixSn (by decide +kernel) (Int.emod_nonneg _ (by decide)) ?_
        show _ < ((LET.length : Nat) : Int)
        rw [LET_len]
        exact Int.emod_lt_of_pos _ (by decide)
      · rw [range_mapD]
        show D.lst _ = D.lst (((List.range n.toNat).map fun (i : Nat) => (⟨#[g (i : Int)]⟩ : Str)).map D.str)
        rw [List.map_map]
        rfl
      · have h1 : (ys.map (·.length)).sum ≤ ys.length := by
          have : ∀ l : List Str, (∀ y ∈ l, y.length ≤ 1) → (l.map (·.length)).sum ≤ l.length := by
            intro l
            induction l with
            | nil => intro _; exact Nat.le_refl 0
            | cons y l ih =>
              intro hl
              rw [List.map_cons, List.sum_cons, List.length_cons]
              have h1 := ih fun z hz => hl z (List.mem_cons_of_mem _ hz)
              have h2 := hl y List.mem_cons_self
              omega
          refine this ys fun y hy => ?_
          obtain ⟨i, _, rfl⟩ := List.mem_map.mp hy
          exact Nat.le_refl 1
        have h2 : ys.length = n.toNat := by
          show ((List.range n.toNat).map fun (i : Nat) => (⟨#[g (i : Int)]⟩ : Str)).length = _
          rw [List.length_map, List.length_range]
        have h3 : ("" : Str).length = 0 := by decide +kernel
        rw [h3]
        omega
    · walk_at "cy.e"
    · rw [← hsig]
      refine e_op e_str (by walk_at "cy.e") ?_
      refine d_ixSn (by decide +kernel) hs0 ?_
      show _ < ((sigs.length : Nat) : Int)
      rw [sigs_len]
      exact hs1
  have hcut : ∀ lo hi, okS (cutS (Txt.join ("" : Str) ys) lo hi) 10 := fun lo hi => okS_cut hys lo hi
  have hone : okS ⟨#[sg]⟩ 1 := okS_one hsg
  have hl := hys.1
  by_cases h1 : c % 4 = 1
  · refine ⟨cutS (Txt.join ("" : Str) ys) none (some (c / 100 % (n + 1))) ++ ⟨#[sg]⟩ ++ cutS (Txt.join ("" : Str) ys) (some (c / 100 % (n + 1))) none, ?_, run _ (st_guard (x := true) (t_is (by walk_at "cy.t") (decide_eq_true h1)) (fun _ => st_ret ?_) (fun q => nomatch q))⟩
    · exact okS_app (okS_app (hcut _ _) hone) (hcut _ _)
    · refine e_op (e_op (e_slS (e_var rfl) p_none (p_some (e_var rfl)) (by omega)) (e_var rfl) (d_addS ?_)) (e_slS (e_var rfl) (p_some (e_var rfl)) p_none (by omega)) (d_addS ?_)
      · have := (hcut none (some (c / 100 % (n + 1)))).1
        have := hone.1
        omega
      · have h4 := (okS_app (hcut none (some (c / 100 % (n + 1)))) hone).1
        have h5 := (hcut (some (c / 100 % (n + 1))) none).1
        omega
  · by_cases h2 : c % 4 = 2
    · refine ⟨cutS (Txt.join ("" : Str) ys) none (some (c / 100 % (n + 1))) ++ ⟨#[sg]⟩ ++ cutS (Txt.join ("" : Str) ys) (some (c / 100 % (n + 1) + 1)) none, ?_, run _ (st_guard (x := false) (t_is (by walk_at "cy.t") (decide_eq_false h1)) (fun q => nomatch q) (fun _ => st_ret (e_if (x := true) (t_is (by walk_at "cy.t") (decide_eq_true h2)) (fun _ => ?_) (fun q => nomatch q))))⟩
      · exact okS_app (okS_app (hcut _ _) hone) (hcut _ _)
      · refine e_op (e_op (e_slS (e_var rfl) p_none (p_some (e_var rfl)) (by omega)) (e_var rfl) (d_addS ?_)) (e_slS (e_var rfl) (p_some (by walk_at "cy.e")) p_none (by omega)) (d_addS ?_)
        · have := (hcut none (some (c / 100 % (n + 1)))).1
          have := hone.1
          omega
        · have h4 := (okS_app (hcut none (some (c / 100 % (n + 1)))) hone).1
          have h5 := (hcut (some (c / 100 % (n + 1) + 1)) none).1
          omega
    · exact ⟨Txt.join ("" : Str) ys, okS_mono hys (by decide), run _ (st_guard (x := false) (t_is (by walk_at "cy.t") (decide_eq_false h1)) (fun q => nomatch q) (fun _ => st_ret (e_if (x := false) (t_is (by walk_at "cy.t") (decide_eq_false h2)) (fun q => nomatch q) (fun _ => e_var rfl))))⟩

theorem fig_ex (K : PySem.W.Frag) (c m : Int) (hc : 0 ≤ c) (hm : 0 ≤ m ∧ m < 1000000000) : ∃ s : Str, okS s 30 ∧ StD K (t_l_figures K) (args nm_l_figures.length [.int c, .int m]) (.rt (.str s)) := by
  let ns : List Int := [c / 8 % 100, m, 1000000000000 - c / 8 % 3, 1000000000000 + c / 8 % 3, m * 48271]
  have hb : ∀ x ∈ ns, 0 ≤ x ∧ x < 100000000000000 := by
    intro x hx
    have h : x = c / 8 % 100 ∨ x = m ∨ x = 1000000000000 - c / 8 % 3 ∨ x = 1000000000000 + c / 8 % 3 ∨ x = m * 48271 := by
      simpa [ns] using hx
    omega
  have hlen : ns.length = 5 := rfl
  have i0 : 0 ≤ c % 5 := Int.emod_nonneg _ (by decide)
  have i1 : c % 5 < 5 := Int.emod_lt_of_pos _ (by decide)
  have hx := hb _ (getD_in 0 ns (c % 5).toNat (by omega))
  have hix : EvD K (tOp (gIx K) (tLst (tCons (tOp (gMod) (tOp (gFdv) (tVar 0) (tC (.int 8))) (tC (.int 100))) (tCons (tVar 1) (tCons (tOp (gSub) (tOp (gPow) (tC (.int 10)) (tC (.int 12))) (tOp (gMod) (tOp (gFdv) (tVar 0) (tC (.int 8))) (tC (.int 3)))) (tCons (tOp (gAdd K) (tOp (gPow) (tC (.int 10)) (tC (.int 12))) (tOp (gMod) (tOp (gFdv) (tVar 0) (tC (.int 8))) (tC (.int 3)))) (tCons (tOp (gMul) (tVar 1) (tC (.int 48271))) tNil)))))) (tOp (gMod) (tVar 0) (tC (.int 5)))) (args nm_l_figures.length [.int c, .int m]) (.int (ns.getD (c % 5).toNat 0)) := by
    refine e_op (e_is (b := .lst (ns.map D.int)) (e_share (o_lst (ds := [.int (c / 8 % 100), .int m, .int (1000000000000 - c / 8 % 3), .int (1000000000000 + c / 8 % 3), .int (m * 48271)]) ?_ (by simp))) rfl) (e_op (e_var rfl) e_int (d_mod (by decide))) (d_ixI i0 (by rw [hlen]; exact i1))
    walk_at "cy.s"
  generalize ns.getD (c % 5).toNat 0 = x at hx hix
  obtain ⟨hx1, hx2⟩ := okS_num hx.1 hx.2
  let as : List Str := ["", "", "0", "+", "-", " "]
  have ha : ∀ y ∈ as, okS y 2 := fun y hy => by
    have : ∀ y ∈ as, (decide (y.length ≤ 2) && y.cps.toList.all fun c => decide (c < 1114112)) = true := by decide +kernel
    exact okS_dec (this y hy)
  have a0 : 0 ≤ c / 40 % 6 := Int.emod_nonneg _ (by decide)
  have a1 : c / 40 % 6 < 6 := Int.emod_lt_of_pos _ (by decide)
  have ha' := ha _ (getD_in Str.empty as (c / 40 % 6).toNat (by show _ < 6; omega))
  let bs : List Str := ["", "", "", "0", " ", ".0", "_1", "a"]
  have hbs : ∀ y ∈ bs, okS y 2 := fun y hy => by
    have : ∀ y ∈ bs, (decide (y.length ≤ 2) && y.cps.toList.all fun c => decide (c < 1114112)) = true := by decide +kernel
    exact okS_dec (this y hy)
  have b0 : 0 ≤ c / 240 % 8 := Int.emod_nonneg _ (by decide)
  have b1 : c / 240 % 8 < 8 := Int.emod_lt_of_pos _ (by decide)
  have hb' := hbs _ (getD_in Str.empty bs (c / 240 % 8).toNat (by show _ < 8; omega))
  refine ⟨as.getD (c / 40 % 6).toNat Str.empty ++ toString x ++ bs.getD (c / 240 % 8).toNat Str.empty, okS_mono (okS_app (okS_app ha' hx1) hb') (by decide), ?_⟩
  unfold t_l_figures
  refine st_seq (st_asg hix g_name) (st_seq (st_asg (d := .str (toString x)) (e_cb (s_cons (e_var rfl) s_nil) (n_strI hx2)) g_name) (st_seq (st_asg (d := .str (as.getD (c / 40 % 6).toNat Str.empty)) ?_ g_name) (st_seq (st_asg (d := .str (bs.getD (c / 240 % 8).toNat Str.empty)) ?_ g_name) (st_ret ?_))))
  · refine e_op (e_is (b := .lst (as.map D.str)) (e_share (o_lst (ds := [.str "", .str "", .str "0", .str "+", .str "-", .str " "]) (by walk_at "cy.s") (by simp))) rfl) (by walk_at "cy.e") (d_ixStr a0 (by show _ < ((6 : Nat) : Int); omega))
  · refine e_op (e_is (b := .lst (bs.map D.str)) (e_share (o_lst (ds := [.str "", .str "", .str "", .str "0", .str " ", .str ".0", .str "_1", .str "a"]) (by walk_at "cy.s") (by simp))) rfl) (by walk_at "cy.e") (d_ixStr b0 (by show _ < ((8 : Nat) : Int); omega))
  · refine e_op (e_op (e_var rfl) (e_var rfl) (d_addS ?_)) (e_var rfl) (d_addS ?_)
    · have := ha'.1
      have := hx1.1
      omega
    · have := (okS_app ha' hx1).1
      have := hb'.1
      omega
end

def R_l_text (K : PySem.W.Frag) : List D → D → Prop := fun ds d => ds.length = 2 ∧ StD K (t_l_text K) (args nm_l_text.length ds) (.rt d)
def R_l_figures (K : PySem.W.Frag) : List D → D → Prop := fun ds d => ds.length = 2 ∧ StD K (t_l_figures K) (args nm_l_figures.length ds) (.rt d)
def R_law : List D → D → Prop := fun ds d => ∃ ns, ds = [.scr ns] ∧ ns.length ≤ 63 ∧ d = .bl true
def sp_l_text (K : PySem.W.Frag) : Sp := spD K (R_l_text K)
def sp_l_figures (K : PySem.W.Frag) : Sp := spD K (R_l_figures K)
def sp_law (K : PySem.W.Frag) : Sp := spD K R_law
theorem ln_l_text {K : PySem.W.Frag} {ds : List D} {d : D} (h : R_l_text K ds d) : ds.length = 2 := h.1
theorem ln_l_figures {K : PySem.W.Frag} {ds : List D} {d : D} (h : R_l_figures K ds d) : ds.length = 2 := h.1
theorem ln_law {ds : List D} {d : D} (h : R_law ds d) : ds.length = 1 := by
  obtain ⟨x, rfl, _⟩ := h
  rfl
section
variable {K : PySem.W.Frag} {vs : List V} {H : Hp} {Q : VK} {E : XK}
theorem len_is_name (h : sp_is_name K vs H Q E) : vs.length = 1 := spD_len (fun _ _ => ln_is_name) h
theorem len_is_among (h : sp_is_among K vs H Q E) : vs.length = 3 := spD_len (fun _ _ => ln_is_among) h
theorem len_number_of (h : sp_number_of K vs H Q E) : vs.length = 1 := spD_len (fun _ _ => ln_number_of) h
theorem len_l_mixed (h : sp_l_mixed K vs H Q E) : vs.length = 2 := spD_len (fun _ _ => ln_l_mixed) h
theorem len_l_number (h : sp_l_number K vs H Q E) : vs.length = 2 := spD_len (fun _ _ => ln_l_number) h
theorem len_l_is_name (h : sp_l_is_name K vs H Q E) : vs.length = 1 := spD_len (fun _ _ => ln_l_is_name) h
theorem len_l_number_of (h : sp_l_number_of K vs H Q E) : vs.length = 1 := spD_len (fun _ _ => ln_l_number_of) h
theorem len_l_text (h : sp_l_text K vs H Q E) : vs.length = 2 := spD_len (fun _ _ => ln_l_text) h
theorem len_l_figures (h : sp_l_figures K vs H Q E) : vs.length = 2 := spD_len (fun _ _ => ln_l_figures) h
theorem len_law (h : sp_law K vs H Q E) : vs.length = 1 := spD_len (fun _ _ => ln_law) h
end

abbrev s_law : Stmt := (top 14)
abbrev nm_law : List Str := ["_law_script", "_law_some", "_law_k", "_law_cell", "_law_more", "_law_odd", "_law_thing", "_law_least", "_law_most", "_law_number_here", "_law_due"]
theorem sc_law : FnScope nm_law ["_law_script"] (defScope s_law) := ⟨rfl, rfl, rfl, by decide +kernel, rfl, by decide +kernel, by decide +kernel⟩
def t_law (K : PySem.W.Frag) : TS := (tSeq (tAsg (tLst (tCons (tC .non) (tCons (tC (.bl true)) (tCons (tC (.bl false)) (tCons (tLst tNil) (tCons (tTup tNil) (tCons (tDNewK) (tCons (tLst (tCons (tC (.str ("a" : Str))) tNil)) (tCons (tTup (tCons (tC (.str ("a" : Str))) tNil)) (tCons (tDisp (((tC (.int 1)), (tC (.int 2))) :: [])) (tCons (tC (.int 0)) (tCons (tC (.int 5)) (tCons (tUn (rU fun i => .int (-i)) (tC (.int 1))) (tCons (tLst (tCons (tC (.int 5)) tNil)) (tCons (tTup (tCons (tC (.str ("5" : Str))) tNil)) tNil))))))))))))))) (gName 1))
  (tSeq (tFor (iRng1 (tCons (tOp (gAdd K) (tC (.int 1)) (tCB (gMin K) (tCons (tC (.int 63)) (tCons (tCB (rLen K) (tCons (tVar 0) tNil)) tNil)))) tNil)) (gName 2) (tSeq (tPar 3 4 (tCons (tCall (sp_l_number K) [] E0 (tCons (tVar 0) (tCons (tVar 2) tNil))) (tCons (tCall (sp_l_number K) [] E0 (tCons (tVar 0) (tCons (tOp (gAdd K) (tVar 2) (tC (.int 100))) tNil))) tNil)))
  (tSeq (tAsg (tOp (gIx K) (tVar 1) (tOp (gMod) (tOp (gFdv) (tVar 3) (tC (.int 7))) (tC (.int 14)))) (gName 5))
  (tSeq (tFor (iTup K (tTup (tCons (tCall (sp_l_text K) [] E0 (tCons (tVar 3) (tCons (tOp (gAdd K) (tC (.int 100)) (tVar 2)) tNil))) (tCons (tCall (sp_l_figures K) [] E0 (tCons (tVar 4) (tCons (tVar 3) tNil))) (tCons (tVar 5) (tCons (tC (.str ("0" : Str))) (tCons (tC (.str ("00" : Str))) (tCons (tC (.str ("" : Str))) tNil)))))))) (gName 6) (tSeq (tIfS (tTest (tOp (gNe K) (tCB (gRepr) (tCons (tCall (sp_is_name K) [] E0 (tCons (tVar 6) tNil)) tNil)) (tCB (gRepr) (tCons (tCall (sp_l_is_name K) [] E0 (tCons (tVar 6) tNil)) tNil)))) (tRet (tC (.bl false))) tNext)
  (tIfS (tTest (tOp (gNe K) (tCB (gRepr) (tCons (tCall (sp_number_of K) [] E0 (tCons (tVar 6) tNil)) tNil)) (tCB (gRepr) (tCons (tCall (sp_l_number_of K) [] E0 (tCons (tVar 6) tNil)) tNil)))) (tRet (tC (.bl false))) tNext)))
  (tSeq (tAsg (tOp (gSub) (tOp (gMod) (tVar 4) (tC (.int 40))) (tC (.int 20))) (gName 7))
  (tSeq (tAsg (tOp (gAdd K) (tVar 7) (tOp (gMod) (tVar 3) (tC (.int 9)))) (gName 8))
  (tSeq (tAsg (tOp (gSub) (tOp (gAdd K) (tVar 7) (tOp (gMod) (tOp (gFdv) (tVar 3) (tC (.int 9))) (tC (.int 13)))) (tC (.int 2))) (gName 9))
  (tSeq (tIfS (tTest (tOp (gNe K) (tCB (gRepr) (tCons (tCall (sp_is_among K) [] E0 (tCons (tVar 9) (tCons (tVar 7) (tCons (tVar 8) tNil)))) tNil)) (tCB (gRepr) (tCons (tChain (gLe) (gLe) (tVar 7) (tVar 9) (tVar 8)) tNil)))) (tRet (tC (.bl false))) tNext)
  (tSeq (tAsg (tAndV (tCB (rIsi K) (tCons (tVar 5) (tCons (tC (.ty "int")) tNil))) (tAndV (tNotV (tCB (rIsi K) (tCons (tVar 5) (tCons (tC (.ty "bool")) tNil)))) (tChain (gLe) (gLe) (tVar 7) (tVar 5) (tVar 8)))) (gName 10))
  (tIfS (tTest (tOp (gNe K) (tCB (gRepr) (tCons (tCall (sp_is_among K) [] E0 (tCons (tVar 5) (tCons (tVar 7) (tCons (tVar 8) tNil)))) tNil)) (tCB (gRepr) (tCons (tVar 10) tNil)))) (tRet (tC (.bl false))) tNext))))))))))
  (tRet (tC (.bl true)))))

section
theorem rd_l_text (K : PySem.W.Frag) {ds : List D} {d : D} (h : R_l_text K ds d) : StD K (t_l_text K) (args nm_l_text.length ds) (.rt d) := h.2
theorem rd_l_figures (K : PySem.W.Frag) {ds : List D} {d : D} (h : R_l_figures K ds d) : StD K (t_l_figures K) (args nm_l_figures.length ds) (.rt d) := h.2
def someD : List D := [.non, .bl true, .bl false, .lst [], .tup [], .dic [], .lst [.str "a"], .tup [.str "a"], .dic [(.int 1, .int 2)], .int 0, .int 5, .int (-1), .lst [.int 5], .tup [.str "5"]]
theorem someD_ok : ∀ x ∈ someD, thing x := by
  intro x hx
  simp [someD] at hx
  rcases hx with rfl | rfl | rfl | rfl | rfl | rfl | rfl | rfl | rfl | rfl | rfl | rfl | rfl | rfl <;> exact ⟨rfl, fun s h => nomatch h⟩
theorem thing_str {s : Str} {m : Nat} (h : okS s m) (hm : m ≤ 1000) : thing (.str s) := ⟨rfl, fun t e => by
  cases e
  exact ⟨Nat.le_trans h.1 hm, h.2⟩⟩
theorem numOf_two (x : D) : numOf x = .non ∨ ∃ n : Nat, numOf x = .int (n : Int) ∧ n ≤ 1000000000000 := by
  cases x with
  | str s =>
    show numS s = _ ∨ ∃ n : Nat, numS s = _ ∧ _
    unfold numS
    split
    · rename_i h
      exact .inr ⟨_, rfl, h.2.2.2.2⟩
    · exact .inl rfl
  | _ => exact .inl rfl
theorem rd_law (K : PySem.W.Frag) {ds : List D} {d : D} (h : R_law ds d) : StD K (t_law K) (args nm_law.length ds) (.rt d) := by
  obtain ⟨ns, rfl, hl, rfl⟩ := h
  unfold t_law
  refine st_seq (st_asg (d := .lst someD) ?_ g_name) ?_
  · exact e_share (o_lst (by walk_at "cy.s") (by decide))
  have hn : (1 + min 63 ((ns.length : Nat) : Int)) ≤ 64 := by omega
  have hn0 : 0 ≤ (1 + min 63 ((ns.length : Nat) : Int)) := by omega
  refine st_seq (st_for (items := rngD 0 (1 + min 63 ((ns.length : Nat) : Int)).toNat) (it_rng1 (n := 1 + min 63 ((ns.length : Nat) : Int)) (by walk_at "cy.s") (by omega))
    (fun _ => [.dat (.scr ns), .dat (.lst someD), .no, .no, .no, .no, .no, .no, .no, .no, .no]) rfl
    (fun i => [.dat (.scr ns), .dat (.lst someD), .dat (.int (i : Int)), .no, .no, .no, .no, .no, .no, .no, .no]) (fun i d h => ?_)
    (fun _ => .nx [.dat (.scr ns), .dat (.lst someD), .no, .no, .no, .no, .no, .no, .no, .no, .no]) (fun i hi _ => ?_) (fun i hi => Or.inl ⟨_, Or.inl rfl, Wk.refl _⟩) (fun _ => rfl)) (st_ret e_bl)
  · obtain ⟨_, rfl⟩ := rngD_get h
    rw [Int.zero_add]
    exact g_name (i := 2)
  · rw [rngD_len] at hi
    have hi63 : i ≤ 63 := by omega
    have hc := number_bd ns (i : Int)
    have hm := number_bd ns ((i : Int) + 100)
    have ec : EvD K (tCall (sp_l_number K) [] E0 (tCons (tVar 0) (tCons (tVar 2) tNil))) [.dat (.scr ns), .dat (.lst someD), .dat (.int (i : Int)), .no, .no, .no, .no, .no, .no, .no, .no] (.int (number ns (i : Int))) :=
      e_call (s_cons (e_var rfl) (s_cons (e_var rfl) s_nil)) ⟨ns, (i : Int), rfl, hl, by omega, by omega, rfl⟩
    have em : EvD K (tCall (sp_l_number K) [] E0 (tCons (tVar 0) (tCons (tOp (gAdd K) (tVar 2) (tC (.int 100))) tNil))) [.dat (.scr ns), .dat (.lst someD), .dat (.int (i : Int)), .no, .no, .no, .no, .no, .no, .no, .no] (.int (number ns ((i : Int) + 100))) :=
      e_call (s_cons (e_var rfl) (s_cons (by walk_at "cy.e") s_nil)) ⟨ns, (i : Int) + 100, rfl, hl, by omega, by omega, rfl⟩
    generalize number ns (i : Int) = c at hc ec
    generalize number ns ((i : Int) + 100) = m at hm em
    refine st_weak (st_seq (st_par (s_cons ec (s_cons em s_nil))) ?_) (G1 := [.dat (.scr ns), .dat (.lst someD), .dat (.int (i : Int)), .dat (.int c), .dat (.int m), .dat (someD.getD (c / 7 % 14).toNat .non), .no, .dat (.int (m % 40 - 20)), .dat (.int (m % 40 - 20 + c % 9)), .dat (.int (m % 40 - 20 + c / 9 % 13 - 2)), .dat (.bl (amongI (someD.getD (c / 7 % 14).toNat .non) (m % 40 - 20) (m % 40 - 20 + c % 9)))]) (by walk_at "cy.wk")
    have o0 : 0 ≤ c / 7 % 14 := Int.emod_nonneg _ (by decide)
    have o1 : c / 7 % 14 < 14 := Int.emod_lt_of_pos _ (by decide)
    have hodd : thing (someD.getD (c / 7 % 14).toNat .non) := someD_ok _ (getD_in D.non someD _ (by show _ < 14; omega))
    refine st_seq (st_asg (d := someD.getD (c / 7 % 14).toNat .non) (e_op (e_var rfl) (by walk_at "cy.e") (d_ixLn o0 (by show _ < ((14 : Nat) : Int); omega))) g_name) ?_
    generalize someD.getD (c / 7 % 14).toNat .non = odd at hodd
    obtain ⟨tx, htx, stx⟩ := text_ex K c (100 + (i : Int)) hc.1 (by omega)
    obtain ⟨fg, hfg, sfg⟩ := fig_ex K m c hm.1 (by omega)
    -- the six things
    refine st_seq (st_for (items := [.str tx, .str fg, odd, .str "0", .str "00", .str ""]) (it_tup (e_tup (s_cons (e_call (s_cons (e_var rfl) (s_cons (by walk_at "cy.e") s_nil)) ⟨rfl, stx⟩) (s_cons (e_call (s_cons (e_var rfl) (s_cons (e_var rfl) s_nil)) ⟨rfl, sfg⟩) (by walk_at "cy.s"))) (by show 6 ≤ 100000; decide)))
      (fun _ => [.dat (.scr ns), .dat (.lst someD), .dat (.int (i : Int)), .dat (.int c), .dat (.int m), .dat odd, .no, .no, .no, .no, .no]) rfl
      (fun j => [.dat (.scr ns), .dat (.lst someD), .dat (.int (i : Int)), .dat (.int c), .dat (.int m), .dat odd, .dat (([.str tx, .str fg, odd, .str "0", .str "00", .str ""] : List D).getD j .non), .no, .no, .no, .no]) (fun j d h => ?_)
      (fun j => .nx [.dat (.scr ns), .dat (.lst someD), .dat (.int (i : Int)), .dat (.int c), .dat (.int m), .dat odd, .no, .no, .no, .no, .no]) (fun j hj _ => ?_) (fun j hj => Or.inl ⟨_, Or.inl rfl, Wk.refl _⟩) (fun _ => rfl)) ?_
    · obtain ⟨h1, h2⟩ := List.getElem?_eq_some_iff.mp h
      rw [getD_of h1, h2]
      exact g_name (i := 6)
    · have hth : thing (([.str tx, .str fg, odd, .str "0", .str "00", .str ""] : List D).getD j .non) := by
        have hall : ∀ x ∈ ([.str tx, .str fg, odd, .str "0", .str "00", .str ""] : List D), thing x := by
          intro x hx
          simp at hx
          rcases hx with rfl | rfl | rfl | rfl | rfl | rfl
          · exact thing_str htx (by decide)
          · exact thing_str hfg (by decide)
          · exact hodd
          · exact thing_str (m := 2) (okS_dec (by decide +kernel)) (by decide)
          · exact thing_str (m := 2) (okS_dec (by decide +kernel)) (by decide)
          · exact thing_str (m := 2) (okS_dec (by decide +kernel)) (by decide)
        exact hall _ (getD_in D.non _ j hj)
      generalize ([.str tx, .str fg, odd, .str "0", .str "00", .str ""] : List D).getD j .non = x at hth
      refine st_weak (st_seq (st_if (x := false) (t_is (t_test (e_op (e_cb (s_cons (e_call (s_cons (e_var rfl) s_nil) ⟨x, rfl, hth, rfl⟩) s_nil) n_reprB) (e_cb (s_cons (e_call (s_cons (e_var rfl) s_nil) ⟨x, rfl, hth, rfl⟩) s_nil) n_reprB) d_neS)) (by rw [decide_eq_true rfl]; rfl)) (fun q => nomatch q) (fun _ => st_next))
        (G1 := [.dat (.scr ns), .dat (.lst someD), .dat (.int (i : Int)), .dat (.int c), .dat (.int m), .dat odd, .dat x, .no, .no, .no, .no]) ?_) (by walk_at "cy.wk")
      rcases numOf_two x with hx | ⟨n, hx, hn⟩
      · refine st_weak (G1 := [.dat (.scr ns), .dat (.lst someD), .dat (.int (i : Int)), .dat (.int c), .dat (.int m), .dat odd, .dat x, .no, .no, .no, .no]) (st_if (x := false) (t_is (t_test (e_op (e_cb (s_cons (e_is (e_call (s_cons (e_var rfl) s_nil) ⟨x, rfl, hth, rfl⟩) hx) s_nil) n_reprN) (e_cb (s_cons (e_is (e_call (s_cons (e_var rfl) s_nil) ⟨x, rfl, hth, rfl⟩) hx) s_nil) n_reprN) d_neS)) (by rw [decide_eq_true rfl]; rfl)) (fun q => nomatch q) (fun _ => st_next)) (by walk_at "cy.wk")
      · have hlog := (okS_num (x := (n : Int)) (by omega) (by omega)).2
        refine st_weak (G1 := [.dat (.scr ns), .dat (.lst someD), .dat (.int (i : Int)), .dat (.int c), .dat (.int m), .dat odd, .dat x, .no, .no, .no, .no]) (st_if (x := false) (t_is (t_test (e_op (e_cb (s_cons (e_is (e_call (s_cons (e_var rfl) s_nil) ⟨x, rfl, hth, rfl⟩) hx) s_nil) (n_reprI hlog)) (e_cb (s_cons (e_is (e_call (s_cons (e_var rfl) s_nil) ⟨x, rfl, hth, rfl⟩) hx) s_nil) (n_reprI hlog)) d_neS)) (by rw [decide_eq_true rfl]; rfl)) (fun q => nomatch q) (fun _ => st_next)) (by walk_at "cy.wk")
    refine st_seq (st_asg (d := .int (m % 40 - 20)) (by walk_at "cy.e") g_name) (st_seq (st_asg (d := .int (m % 40 - 20 + c % 9)) (by walk_at "cy.e") g_name) (st_seq (st_asg (d := .int (m % 40 - 20 + c / 9 % 13 - 2)) (by walk_at "cy.e") g_name) ?_))
    generalize m % 40 - 20 = a
    generalize a + c % 9 = b
    generalize a + c / 9 % 13 - 2 = n
    refine st_seq (st_if (x := false) (t_is (t_test (e_op (e_cb (s_cons (e_call (s_cons (e_var rfl) (s_cons (e_var rfl) (s_cons (e_var rfl) s_nil))) ⟨.int n, a, b, rfl, rfl, rfl⟩) s_nil) n_reprB) (e_cb (s_cons (e_chain (e_var rfl) (e_var rfl) d_leI (fun _ => e_var rfl) (fun _ => d_leI)) s_nil) n_reprB) d_neS)) (by rw [decide_eq_true (show reprB (amongI (D.int n) a b) = reprB (decide (a ≤ n) && decide (n ≤ b)) from rfl)]; rfl)) (fun q => nomatch q) (fun _ => st_next)) ?_
    refine st_seq (st_asg (d := .bl (amongI odd a b)) ?_ g_name) ?_
    · have f1 : EvD K (tCB (rIsi K) (tCons (tVar 5) (tCons (tC (.ty "int")) tNil))) [.dat (.scr ns), .dat (.lst someD), .dat (.int (i : Int)), .dat (.int c), .dat (.int m), .dat odd, .no, .dat (.int a), .dat (.int b), .dat (.int n), .no] (.bl (isI odd)) := e_isI (e_var rfl) hodd.1
      have f2 : EvD K (tCB (rIsi K) (tCons (tVar 5) (tCons (tC (.ty "bool")) tNil))) [.dat (.scr ns), .dat (.lst someD), .dat (.int (i : Int)), .dat (.int c), .dat (.int m), .dat odd, .no, .dat (.int a), .dat (.int b), .dat (.int n), .no] (.bl (isB odd)) := e_isB (e_var rfl) hodd.1
      cases odd with
      | int z => exact e_is (e_andV f1 (fun _ => e_andV (e_notV f2) (fun _ => e_chain (e_var rfl) (e_var rfl) d_leI (fun _ => e_var rfl) (fun _ => d_leI)))) rfl
      | bl z => exact e_is (e_andV f1 (fun _ => e_andV (y := false) (e_notV f2) (fun q => nomatch q))) rfl
      | _ => exact e_is (e_andV (y := false) f1 (fun q => nomatch q)) rfl
    · exact st_if (x := false) (t_is (t_test (e_op (e_cb (s_cons (e_call (s_cons (e_var rfl) (s_cons (e_var rfl) (s_cons (e_var rfl) s_nil))) ⟨odd, a, b, rfl, hodd.1, rfl⟩) s_nil) n_reprB) (e_cb (s_cons (e_var rfl) s_nil) n_reprB) d_neS)) (by rw [decide_eq_true rfl]; rfl)) (fun q => nomatch q) (fun _ => st_next)
theorem law_end {K : PySem.W.Frag} {H : Hp} {a : Addr} {ns : List Int} (hl : ns.length ≤ 63) (hS : SqL K H a (ns.map V.int)) : sp_law K [.ref a] H (fun v _ => v = .bl true) fun _ _ _ => False := law_endD hS ⟨ns, rfl, hl, rfl⟩
end

/-- what the top has written -/
structure Tx (K : PySem.W.Frag) (mg : Str → Option Value) where
  a_is_name : Addr
  d_is_name : FuncData
  F_is_name : Fun K "is_name" "is_name" s_is_name a_is_name d_is_name
  m_is_name : mg "is_name" = some (.ref a_is_name)
  a_is_among : Addr
  d_is_among : FuncData
  F_is_among : Fun K "is_among" "is_among" s_is_among a_is_among d_is_among
  m_is_among : mg "is_among" = some (.ref a_is_among)
  a_number_of : Addr
  d_number_of : FuncData
  F_number_of : Fun K "number_of" "number_of" s_number_of a_number_of d_number_of
  m_number_of : mg "number_of" = some (.ref a_number_of)
  a_l_mixed : Addr
  d_l_mixed : FuncData
  F_l_mixed : Fun K "_law_mixed" "_law_mixed" s_l_mixed a_l_mixed d_l_mixed
  m_l_mixed : mg "_law_mixed" = some (.ref a_l_mixed)
  a_l_number : Addr
  d_l_number : FuncData
  F_l_number : Fun K "_law_number" "_law_number" s_l_number a_l_number d_l_number
  m_l_number : mg "_law_number" = some (.ref a_l_number)
  a_l_is_name : Addr
  d_l_is_name : FuncData
  F_l_is_name : Fun K "_law_is_name" "_law_is_name" s_l_is_name a_l_is_name d_l_is_name
  m_l_is_name : mg "_law_is_name" = some (.ref a_l_is_name)
  a_l_number_of : Addr
  d_l_number_of : FuncData
  F_l_number_of : Fun K "_law_number_of" "_law_number_of" s_l_number_of a_l_number_of d_l_number_of
  m_l_number_of : mg "_law_number_of" = some (.ref a_l_number_of)
  a_l_text : Addr
  d_l_text : FuncData
  F_l_text : Fun K "_law_text" "_law_text" s_l_text a_l_text d_l_text
  m_l_text : mg "_law_text" = some (.ref a_l_text)
  a_l_figures : Addr
  d_l_figures : FuncData
  F_l_figures : Fun K "_law_figures" "_law_figures" s_l_figures a_l_figures d_l_figures
  m_l_figures : mg "_law_figures" = some (.ref a_l_figures)
  a_law : Addr
  d_law : FuncData
  F_law : Fun K "law" "law" s_law a_law d_law
  m_law : mg "law" = some (.ref a_law)
  b_all : mg "all" = none
  b_bool : mg "bool" = none
  b_int : mg "int" = none
  b_isinstance : mg "isinstance" = none
  b_len : mg "len" = none
  b_min : mg "min" = none
  b_range : mg "range" = none
  b_repr : mg "repr" = none
  b_str : mg "str" = none
  k_GREATEST_NUMBER : Tok
  c_GREATEST_NUMBER : mg "GREATEST_NUMBER" = some (.int 1000000000000 k_GREATEST_NUMBER)
  k_LONGEST_NAME : Tok
  c_LONGEST_NAME : mg "LONGEST_NAME" = some (.int 8 k_LONGEST_NAME)
  k_MOST_FIGURES : Tok
  c_MOST_FIGURES : mg "MOST_FIGURES" = some (.int 13 k_MOST_FIGURES)
section
variable {P : Program} {w : World} {K : PySem.W.Frag} {mg : Str → Option Value} {base : Heap}
theorem bd_is_name (T : Tx K mg) : Binds K T.d_is_name ["thing"] [] := T.F_is_name.binds (ps := ["thing"]) fun _ _ _ _ _ _ us hl => match us, hl with | [_], _ => rfl
theorem ok_is_name (T : Tx K mg) : FnOk P w K mg base CX0 1 T.a_is_name T.d_is_name ["thing"] (sp_is_name K) := by
  refine T.F_is_name.ok sc_is_name (fun vs H Q E h => len_is_name h) (fun cdv A outer s H vs Q E hr h => ?_)
  refine ⟨t_is_name K, ?_, body_D (N := nm_is_name) h (fun ds d hR => by rw [ln_is_name hR]; decide) (fun ds d hR => rd_is_name K hR)⟩
  exact (pss_cons (ps_if (PW.pt (pw_or (pt_not (pt_val (pe_callB call_isi (by rfl) T.b_isinstance (by decide +kernel) (pa_cons (pv 0) (pa_cons (pe_bltn (v := .ty "str") (by rfl) T.b_str (by decide +kernel) rfl) pa_nil))))) (pw_or1 (pt_cmpR op_gGt (pe_callB call_gLen (by rfl) T.b_len (by decide +kernel) (pa_cons (pv 0) pa_nil)) (pe_glob rfl T.c_LONGEST_NAME ⟨_, rfl⟩) (nomark _))))) (pss_one (ps_ret (pe_bl))) pss_nil)
  (pss_one (ps_ret (pe_and (pe_m0 PySem.F.slot_str_islower PySem.F.type_str_islower mt_islower (pv 0)) (pe_and (pe_m0 PySem.F.slot_str_isalpha PySem.F.type_str_isalpha mt_isalpha (pv 0)) (pe_one (pe_m0 PySem.F.slot_str_isascii PySem.F.type_str_isascii mt_isascii (pv 0))))))))
theorem bd_is_among (T : Tx K mg) : Binds K T.d_is_among ["thing", "least", "most"] [] := T.F_is_among.binds (ps := ["thing", "least", "most"]) fun _ _ _ _ _ _ us hl => match us, hl with | [_, _, _], _ => rfl
theorem ok_is_among (T : Tx K mg) : FnOk P w K mg base CX0 1 T.a_is_among T.d_is_among ["thing", "least", "most"] (sp_is_among K) := by
  refine T.F_is_among.ok sc_is_among (fun vs H Q E h => len_is_among h) (fun cdv A outer s H vs Q E hr h => ?_)
  refine ⟨t_is_among K, ?_, body_D (N := nm_is_among) h (fun ds d hR => by rw [ln_is_among hR]; decide) (fun ds d hR => rd_is_among K hR)⟩
  exact (pss_cons (ps_if (PW.pt (pw_or (pt_not (pt_val (pe_callB call_isi (by rfl) T.b_isinstance (by decide +kernel) (pa_cons (pv 0) (pa_cons (pe_bltn (v := .ty "int") (by rfl) T.b_int (by decide +kernel) rfl) pa_nil))))) (pw_or1 (pt_val (pe_callB call_isi (by rfl) T.b_isinstance (by decide +kernel) (pa_cons (pv 0) (pa_cons (pe_bltn (v := .ty "bool") (by rfl) T.b_bool (by decide +kernel) rfl) pa_nil))))))) (pss_one (ps_ret (pe_bl))) pss_nil)
  (pss_one (ps_ret (pe_chain op_gLe op_gLe (pv 1) (pv 0) (pv 2)))))
theorem bd_number_of (T : Tx K mg) : Binds K T.d_number_of ["word"] [] := T.F_number_of.binds (ps := ["word"]) fun _ _ _ _ _ _ us hl => match us, hl with | [_], _ => rfl
theorem ok_number_of (T : Tx K mg) : FnOk P w K mg base CX0 1 T.a_number_of T.d_number_of ["word"] (sp_number_of K) := by
  refine T.F_number_of.ok sc_number_of (fun vs H Q E h => len_number_of h) (fun cdv A outer s H vs Q E hr h => ?_)
  refine ⟨t_number_of K, ?_, body_D (N := nm_number_of) h (fun ds d hR => by rw [ln_number_of hR]; decide) (fun ds d hR => rd_number_of K hR)⟩
  exact (pss_cons (ps_if (PW.pt (pw_or (pt_not (pt_val (pe_callB call_isi (by rfl) T.b_isinstance (by decide +kernel) (pa_cons (pv 0) (pa_cons (pe_bltn (v := .ty "str") (by rfl) T.b_str (by decide +kernel) rfl) pa_nil))))) (pw_or1 (pt_not (pt_chain op_gLe op_gLe (pe_int) (pe_callB call_gLen (by rfl) T.b_len (by decide +kernel) (pa_cons (pv 0) pa_nil)) (pe_glob rfl T.c_MOST_FIGURES ⟨_, rfl⟩)))))) (pss_one (ps_ret (pe_non))) pss_nil)
  (pss_cons (ps_if (pt_not (pt_val (pe_callB (cr_all rfl) (by rfl) T.b_all (by decide +kernel) (pa_cons (pe_lc (own := [("sign", 1)]) (g := (gName 1)) (tt := tYes) (by rfl) sc_number_of.nd (pi_str (pv 0)) (blkOk_by (own := [("sign", 1)]) (N := nm_number_of) (sc := defScope s_number_of) (by decide +kernel)) (fun _ _ _ _ _ => (pg_name (i := 1) sc_number_of.nd rfl (Or.inl rfl))) (fun _ _ _ _ _ => pts_nil) (fun _ _ _ _ _ => (pe_chain op_gLe op_gLe (pe_str) (pv 1) (pe_str)))) pa_nil)))) (pss_one (ps_ret (pe_non))) pss_nil)
  (pss_cons (ps_if (PW.pt (pw_and (pt_cmpR (op_gEq hr.units) (pe_ix ix_seq (pv 0) (pe_int) (fun _ _ => rfl)) (pe_str) (nomark _)) (pw_and1 (pt_cmpR (op_gNe hr.units) (pv 0) (pe_str) (nomark _))))) (pss_one (ps_ret (pe_non))) pss_nil)
  (pss_cons (ps_set (i := 2) sc_number_of.nd rfl (by first | exact Or.inl rfl | exact Or.inr rfl) (pe_callTy call_gInt (by rfl) T.b_int (by decide +kernel) (pa_cons (pv 0) pa_nil)))
  (pss_cons (ps_if (pt_cmpR op_gGt (pv 2) (pe_glob rfl T.c_GREATEST_NUMBER ⟨_, rfl⟩) (nomark _)) (pss_one (ps_ret (pe_non))) pss_nil)
  (pss_one (ps_ret (pv 2))))))))
theorem bd_l_mixed (T : Tx K mg) : Binds K T.d_l_mixed ["_law_cell", "_law_k"] [] := T.F_l_mixed.binds (ps := ["_law_cell", "_law_k"]) fun _ _ _ _ _ _ us hl => match us, hl with | [_, _], _ => rfl
theorem ok_l_mixed (T : Tx K mg) : FnOk P w K mg base CX0 1 T.a_l_mixed T.d_l_mixed ["_law_cell", "_law_k"] (sp_l_mixed K) := by
  refine T.F_l_mixed.ok sc_l_mixed (fun vs H Q E h => len_l_mixed h) (fun cdv A outer s H vs Q E hr h => ?_)
  refine ⟨t_l_mixed K, ?_, body_D (N := nm_l_mixed) h (fun ds d hR => by rw [ln_l_mixed hR]; decide) (fun ds d hR => rd_l_mixed K hR)⟩
  exact (pss_cons (ps_set (i := 2) sc_l_mixed.nd rfl (by first | exact Or.inl rfl | exact Or.inr rfl) (pe_op op_gMod (pe_op op_gMul (pe_op op_gAdd (pe_op op_gAdd (pe_op op_gAdd (pe_op op_gMod (pv 0) (pe_int)) (pe_op op_gMul (pe_op op_gMul (pe_int) (pv 1)) (pv 1))) (pe_op op_gMul (pe_int) (pv 1))) (pe_int)) (pe_int)) (pe_int)))
  (pss_one (ps_ret (pe_op op_gFdv (pe_op op_gMod (pe_op op_gMul (pv 2) (pe_op op_gAdd (pe_op op_gMod (pv 2) (pe_int)) (pe_int))) (pe_int)) (pe_int)))))
theorem bd_l_number (T : Tx K mg) : Binds K T.d_l_number ["_law_script", "_law_k"] [] := T.F_l_number.binds (ps := ["_law_script", "_law_k"]) fun _ _ _ _ _ _ us hl => match us, hl with | [_, _], _ => rfl
theorem ok_l_number (T : Tx K mg) : FnOk P w K mg base CX0 2 T.a_l_number T.d_l_number ["_law_script", "_law_k"] (sp_l_number K) := by
  refine T.F_l_number.ok sc_l_number (fun vs H Q E h => len_l_number h) (fun cdv A outer s H vs Q E hr h => ?_)
  refine ⟨t_l_number K, ?_, body_D (N := nm_l_number) h (fun ds d hR => by rw [ln_l_number hR]; decide) (fun ds d hR => rd_l_number K hR)⟩
  exact (pss_cons (ps_set (i := 2) sc_l_number.nd rfl (by first | exact Or.inl rfl | exact Or.inr rfl) (pe_int))
  (pss_cons (ps_if (pt_cmpR op_gGt (pe_callB call_gLen (by rfl) T.b_len (by decide +kernel) (pa_cons (pv 0) pa_nil)) (pe_int) (nomark _)) (pss_cons (ps_set (i := 2) sc_l_number.nd rfl (by first | exact Or.inl rfl | exact Or.inr rfl) (pe_ix ix_seq (pv 0) (pe_op op_gMod (pv 1) (pe_callB call_gLen (by rfl) T.b_len (by decide +kernel) (pa_cons (pv 0) pa_nil))) (fun _ _ => rfl)))
  (pss_one (ps_if (pt_cmpR (op_gEq hr.units) (pe_op op_gMod (pe_ix ix_seq (pv 0) (pe_int) (fun _ _ => rfl)) (pe_int)) (pe_int) (nomark _)) (pss_cons (ps_for PassesOwn.never rfl (pi_range1 (by rfl) T.b_range (pa_cons (pe_callB (call_gMin rfl) (by rfl) T.b_min (by decide +kernel) (pa_cons (pe_int) (pa_cons (pe_op op_gFdv (pv 1) (pe_callB call_gLen (by rfl) T.b_len (by decide +kernel) (pa_cons (pv 0) pa_nil))) pa_nil))) pa_nil)) (pg_name (i := 3) sc_l_number.nd rfl (by first | exact Or.inl rfl | exact Or.inr rfl)) (pss_one (ps_set (i := 2) sc_l_number.nd rfl (by first | exact Or.inl rfl | exact Or.inr rfl) (pe_op op_gFdv (pv 2) (pe_op op_gPow (pe_int) (pe_int))))))
  (pss_one (ps_ret (pe_op op_gMod (pv 2) (pe_op op_gPow (pe_int) (pe_int)))))) pss_nil))) pss_nil)
  (pss_one (ps_ret (pe_call (ok_l_mixed T) (hr.mono (by decide)) (by rfl) T.m_l_mixed T.F_l_mixed.kp (bd_l_mixed T) .nil pass0 (pa_cons (pv 2) (pa_cons (pv 1) pa_nil)))))))
theorem bd_l_is_name (T : Tx K mg) : Binds K T.d_l_is_name ["_law_thing"] [] := T.F_l_is_name.binds (ps := ["_law_thing"]) fun _ _ _ _ _ _ us hl => match us, hl with | [_], _ => rfl
theorem ok_l_is_name (T : Tx K mg) : FnOk P w K mg base CX0 1 T.a_l_is_name T.d_l_is_name ["_law_thing"] (sp_l_is_name K) := by
  refine T.F_l_is_name.ok sc_l_is_name (fun vs H Q E h => len_l_is_name h) (fun cdv A outer s H vs Q E hr h => ?_)
  refine ⟨t_l_is_name K, ?_, body_D (N := nm_l_is_name) h (fun ds d hR => by rw [ln_l_is_name hR]; decide) (fun ds d hR => rd_l_is_name K hR)⟩
  exact (pss_cons (ps_if (PW.pt (pw_or (pt_not (pt_val (pe_callB call_isi (by rfl) T.b_isinstance (by decide +kernel) (pa_cons (pv 0) (pa_cons (pe_bltn (v := .ty "str") (by rfl) T.b_str (by decide +kernel) rfl) pa_nil))))) (pw_or1 (pt_not (pt_chain op_gLe op_gLe (pe_int) (pe_callB call_gLen (by rfl) T.b_len (by decide +kernel) (pa_cons (pv 0) pa_nil)) (pe_int)))))) (pss_one (ps_ret (pe_bl))) pss_nil)
  (pss_one (ps_ret (pe_cmpR (op_gEq hr.units) (pe_lc (own := [("_law_sign", 1)]) (g := (gName 1)) (tt := (tNot (tTest (tChain (gLe) (gLe) (tC (.str ("a" : Str))) (tVar 1) (tC (.str ("z" : Str))))))) (by rfl) sc_l_is_name.nd (pi_str (pv 0)) (blkOk_by (own := [("_law_sign", 1)]) (N := nm_l_is_name) (sc := defScope s_l_is_name) (by decide +kernel)) (fun _ _ _ _ _ => (pg_name (i := 1) sc_l_is_name.nd rfl (Or.inl rfl))) (fun _ _ _ _ _ => (pts_one (pt_not (pt_chain op_gLe op_gLe (pe_str) (pv 1) (pe_str))))) (fun _ _ _ _ _ => (pv 1))) (pe_lst pa_nil) (nomark _)))))
theorem bd_l_number_of (T : Tx K mg) : Binds K T.d_l_number_of ["_law_thing"] [] := T.F_l_number_of.binds (ps := ["_law_thing"]) fun _ _ _ _ _ _ us hl => match us, hl with | [_], _ => rfl
theorem ok_l_number_of (T : Tx K mg) : FnOk P w K mg base CX0 1 T.a_l_number_of T.d_l_number_of ["_law_thing"] (sp_l_number_of K) := by
  refine T.F_l_number_of.ok sc_l_number_of (fun vs H Q E h => len_l_number_of h) (fun cdv A outer s H vs Q E hr h => ?_)
  refine ⟨t_l_number_of K, ?_, body_D (N := nm_l_number_of) h (fun ds d hR => by rw [ln_l_number_of hR]; decide) (fun ds d hR => rd_l_number_of K hR)⟩
  exact (pss_cons (ps_if (PW.pt (pw_or (pt_not (pt_val (pe_callB call_isi (by rfl) T.b_isinstance (by decide +kernel) (pa_cons (pv 0) (pa_cons (pe_bltn (v := .ty "str") (by rfl) T.b_str (by decide +kernel) rfl) pa_nil))))) (pw_or (pt_cmpR (op_gEq hr.units) (pv 0) (pe_str) (nomark _)) (pw_or1 (pt_cmpR op_gGt (pe_callB call_gLen (by rfl) T.b_len (by decide +kernel) (pa_cons (pv 0) pa_nil)) (pe_int) (nomark _)))))) (pss_one (ps_ret (pe_non))) pss_nil)
  (pss_cons (ps_set (i := 1) sc_l_number_of.nd rfl (by first | exact Or.inl rfl | exact Or.inr rfl) (pe_int))
  (pss_cons (ps_for PassesOwn.never rfl (pi_str (pv 0)) (pg_name (i := 2) sc_l_number_of.nd rfl (by first | exact Or.inl rfl | exact Or.inr rfl)) (pss_cons (ps_if (pt_cmpR op_gNi (pv 2) (pe_str) (by rfl)) (pss_one (ps_ret (pe_non))) pss_nil)
  (pss_one (ps_set (i := 1) sc_l_number_of.nd rfl (by first | exact Or.inl rfl | exact Or.inr rfl) (pe_op op_gAdd (pe_op op_gMul (pe_int) (pv 1)) (pe_m1 PySem.F.slot_str_index PySem.F.type_str_index mt_sindex (pe_str) (pv 2)))))))
  (pss_one (ps_ret (pe_ifExp (PW.pt (pw_and (pt_cmpR (op_gEq hr.units) (pe_callTy call_gStr (by rfl) T.b_str (by decide +kernel) (pa_cons (pv 1) pa_nil)) (pv 0) (nomark _)) (pw_and1 (pt_cmpR op_gLe (pv 1) (pe_op op_gPow (pe_int) (pe_int)) (nomark _))))) (pv 1) (pe_non)))))))
theorem bd_l_text (T : Tx K mg) : Binds K T.d_l_text ["_law_cell", "_law_k"] [] := T.F_l_text.binds (ps := ["_law_cell", "_law_k"]) fun _ _ _ _ _ _ us hl => match us, hl with | [_, _], _ => rfl
theorem ok_l_text (T : Tx K mg) : FnOk P w K mg base CX0 2 T.a_l_text T.d_l_text ["_law_cell", "_law_k"] (sp_l_text K) := by
  refine T.F_l_text.ok sc_l_text (fun vs H Q E h => len_l_text h) (fun cdv A outer s H vs Q E hr h => ?_)
  refine ⟨t_l_text K, ?_, body_D (N := nm_l_text) h (fun ds d hR => by rw [ln_l_text hR]; decide) (fun ds d hR => rd_l_text K hR)⟩
  exact (pss_cons (ps_set (i := 2) sc_l_text.nd rfl (by first | exact Or.inl rfl | exact Or.inr rfl) (pe_str))
  (pss_cons (ps_set (i := 3) sc_l_text.nd rfl (by first | exact Or.inl rfl | exact Or.inr rfl) (pe_op op_gMod (pe_op op_gFdv (pv 0) (pe_int)) (pe_int)))
  (pss_cons (ps_set (i := 4) sc_l_text.nd rfl (by first | exact Or.inl rfl | exact Or.inr rfl) (pe_join (pe_str) (pe_lc (own := [("_law_j", 5)]) (g := (gName 5)) (tt := tYes) (by rfl) sc_l_text.nd (pi_range1 (by rfl) T.b_range (pa_cons (pv 3) pa_nil)) (blkOk_by (own := [("_law_j", 5)]) (N := nm_l_text) (sc := defScope s_l_text) (by decide +kernel)) (fun _ _ _ _ _ => (pg_name (i := 5) sc_l_text.nd rfl (Or.inl rfl))) (fun _ _ _ _ _ => pts_nil) (fun _ _ _ _ _ => (pe_ix ix_seq (pv 2) (pe_op op_gMod (pe_op op_gFdv (pe_call (ok_l_mixed T) (hr.mono (by decide)) (by rfl) T.m_l_mixed T.F_l_mixed.kp (bd_l_mixed T) .nil pass0 (pa_cons (pv 0) (pa_cons (pe_op op_gAdd (pv 1) (pv 5)) pa_nil))) (pe_int)) (pe_int)) (fun _ _ => rfl))))))
  (pss_cons (ps_set (i := 6) sc_l_text.nd rfl (by first | exact Or.inl rfl | exact Or.inr rfl) (pe_op op_gMod (pe_op op_gFdv (pv 0) (pe_int)) (pe_op op_gAdd (pv 3) (pe_int))))
  (pss_cons (ps_set (i := 7) sc_l_text.nd rfl (by first | exact Or.inl rfl | exact Or.inr rfl) (pe_ix ix_seq (pe_str) (pe_op op_gMod (pe_op op_gFdv (pv 0) (pe_int)) (pe_int)) (fun _ _ => rfl)))
  (pss_cons (ps_if (pt_cmpR (op_gEq hr.units) (pe_op op_gMod (pv 0) (pe_int)) (pe_int) (nomark _)) (pss_one (ps_ret (pe_op op_gAdd (pe_op op_gAdd (pe_slice sl_gSl (pv 4) po_none (po_some (pv 6))) (pv 7)) (pe_slice sl_gSl (pv 4) (po_some (pv 6)) po_none)))) pss_nil)
  (pss_one (ps_ret (pe_ifExp (pt_cmpR (op_gEq hr.units) (pe_op op_gMod (pv 0) (pe_int)) (pe_int) (nomark _)) (pe_op op_gAdd (pe_op op_gAdd (pe_slice sl_gSl (pv 4) po_none (po_some (pv 6))) (pv 7)) (pe_slice sl_gSl (pv 4) (po_some (pe_op op_gAdd (pv 6) (pe_int))) po_none)) (pv 4))))))))))
theorem bd_l_figures (T : Tx K mg) : Binds K T.d_l_figures ["_law_cell", "_law_more"] [] := T.F_l_figures.binds (ps := ["_law_cell", "_law_more"]) fun _ _ _ _ _ _ us hl => match us, hl with | [_, _], _ => rfl
theorem ok_l_figures (T : Tx K mg) : FnOk P w K mg base CX0 1 T.a_l_figures T.d_l_figures ["_law_cell", "_law_more"] (sp_l_figures K) := by
  refine T.F_l_figures.ok sc_l_figures (fun vs H Q E h => len_l_figures h) (fun cdv A outer s H vs Q E hr h => ?_)
  refine ⟨t_l_figures K, ?_, body_D (N := nm_l_figures) h (fun ds d hR => by rw [ln_l_figures hR]; decide) (fun ds d hR => rd_l_figures K hR)⟩
  exact (pss_cons (ps_set (i := 2) sc_l_figures.nd rfl (by first | exact Or.inl rfl | exact Or.inr rfl) (pe_ix ix_seq (pe_lst (pa_cons (pe_op op_gMod (pe_op op_gFdv (pv 0) (pe_int)) (pe_int)) (pa_cons (pv 1) (pa_cons (pe_op op_gSub (pe_op op_gPow (pe_int) (pe_int)) (pe_op op_gMod (pe_op op_gFdv (pv 0) (pe_int)) (pe_int))) (pa_cons (pe_op op_gAdd (pe_op op_gPow (pe_int) (pe_int)) (pe_op op_gMod (pe_op op_gFdv (pv 0) (pe_int)) (pe_int))) (pa_cons (pe_op op_gMul (pv 1) (pe_int)) pa_nil)))))) (pe_op op_gMod (pv 0) (pe_int)) (fun _ _ => rfl)))
  (pss_cons (ps_set (i := 3) sc_l_figures.nd rfl (by first | exact Or.inl rfl | exact Or.inr rfl) (pe_callTy call_gStr (by rfl) T.b_str (by decide +kernel) (pa_cons (pv 2) pa_nil)))
  (pss_cons (ps_set (i := 4) sc_l_figures.nd rfl (by first | exact Or.inl rfl | exact Or.inr rfl) (pe_ix ix_seq (pe_lst (pa_cons (pe_str) (pa_cons (pe_str) (pa_cons (pe_str) (pa_cons (pe_str) (pa_cons (pe_str) (pa_cons (pe_str) pa_nil))))))) (pe_op op_gMod (pe_op op_gFdv (pv 0) (pe_int)) (pe_int)) (fun _ _ => rfl)))
  (pss_cons (ps_set (i := 5) sc_l_figures.nd rfl (by first | exact Or.inl rfl | exact Or.inr rfl) (pe_ix ix_seq (pe_lst (pa_cons (pe_str) (pa_cons (pe_str) (pa_cons (pe_str) (pa_cons (pe_str) (pa_cons (pe_str) (pa_cons (pe_str) (pa_cons (pe_str) (pa_cons (pe_str) pa_nil))))))))) (pe_op op_gMod (pe_op op_gFdv (pv 0) (pe_int)) (pe_int)) (fun _ _ => rfl)))
  (pss_one (ps_ret (pe_op op_gAdd (pe_op op_gAdd (pv 4) (pv 3)) (pv 5))))))))
theorem bd_law (T : Tx K mg) : Binds K T.d_law ["_law_script"] [] := T.F_law.binds (ps := ["_law_script"]) fun _ _ _ _ _ _ us hl => match us, hl with | [_], _ => rfl
theorem ok_law (T : Tx K mg) : FnOk P w K mg base CX0 3 T.a_law T.d_law ["_law_script"] (sp_law K) := by
  refine T.F_law.ok sc_law (fun vs H Q E h => len_law h) (fun cdv A outer s H vs Q E hr h => ?_)
  refine ⟨t_law K, ?_, body_D (N := nm_law) h (fun ds d hR => by rw [ln_law hR]; decide) (fun ds d hR => rd_law K hR)⟩
  exact (pss_cons (ps_set (i := 1) sc_law.nd rfl (by first | exact Or.inl rfl | exact Or.inr rfl) (pe_lst (pa_cons (pe_non) (pa_cons (pe_bl) (pa_cons (pe_bl) (pa_cons (pe_lst pa_nil) (pa_cons (pe_tup pa_nil) (pa_cons (pe_dnewK) (pa_cons (pe_lst (pa_cons (pe_str) pa_nil)) (pa_cons (pe_tup (pa_cons (pe_str) pa_nil)) (pa_cons (pe_disp (pps_cons (pe_int) (pe_int) pps_nil) (by rfl) (by rfl) (fun z => by cases z) (by decide)) (pa_cons (pe_int) (pa_cons (pe_int) (pa_cons (pe_un un_neg (pe_int)) (pa_cons (pe_lst (pa_cons (pe_int) pa_nil)) (pa_cons (pe_tup (pa_cons (pe_str) pa_nil)) pa_nil))))))))))))))))
  (pss_cons (ps_for PassesOwn.never rfl (pi_range1 (by rfl) T.b_range (pa_cons (pe_op op_gAdd (pe_int) (pe_callB (call_gMin rfl) (by rfl) T.b_min (by decide +kernel) (pa_cons (pe_int) (pa_cons (pe_callB call_gLen (by rfl) T.b_len (by decide +kernel) (pa_cons (pv 0) pa_nil)) pa_nil)))) pa_nil)) (pg_name (i := 2) sc_law.nd rfl (by first | exact Or.inl rfl | exact Or.inr rfl)) (pss_cons (ps_par (i := 3) (j := 4) (by rfl) sc_law.nd rfl rfl (by decide) rfl rfl (pa_cons (pe_call (ok_l_number T) (hr.mono (by decide)) (by rfl) T.m_l_number T.F_l_number.kp (bd_l_number T) .nil pass0 (pa_cons (pv 0) (pa_cons (pv 2) pa_nil))) (pa_cons (pe_call (ok_l_number T) (hr.mono (by decide)) (by rfl) T.m_l_number T.F_l_number.kp (bd_l_number T) .nil pass0 (pa_cons (pv 0) (pa_cons (pe_op op_gAdd (pv 2) (pe_int)) pa_nil))) pa_nil)) (by rfl))
  (pss_cons (ps_set (i := 5) sc_law.nd rfl (by first | exact Or.inl rfl | exact Or.inr rfl) (pe_ix ix_seq (pv 1) (pe_op op_gMod (pe_op op_gFdv (pv 3) (pe_int)) (pe_int)) (fun _ _ => rfl)))
  (pss_cons (ps_for PassesOwn.never rfl (pi_tup (pe_tup (pa_cons (pe_call (ok_l_text T) (hr.mono (by decide)) (by rfl) T.m_l_text T.F_l_text.kp (bd_l_text T) .nil pass0 (pa_cons (pv 3) (pa_cons (pe_op op_gAdd (pe_int) (pv 2)) pa_nil))) (pa_cons (pe_call (ok_l_figures T) (hr.mono (by decide)) (by rfl) T.m_l_figures T.F_l_figures.kp (bd_l_figures T) .nil pass0 (pa_cons (pv 4) (pa_cons (pv 3) pa_nil))) (pa_cons (pv 5) (pa_cons (pe_str) (pa_cons (pe_str) (pa_cons (pe_str) pa_nil)))))))) (pg_name (i := 6) sc_law.nd rfl (by first | exact Or.inl rfl | exact Or.inr rfl)) (pss_cons (ps_if (pt_cmpR (op_gNe hr.units) (pe_callB call_gRepr (by rfl) T.b_repr (by decide +kernel) (pa_cons (pe_call (ok_is_name T) (hr.mono (by decide)) (by rfl) T.m_is_name T.F_is_name.kp (bd_is_name T) .nil pass0 (pa_cons (pv 6) pa_nil)) pa_nil)) (pe_callB call_gRepr (by rfl) T.b_repr (by decide +kernel) (pa_cons (pe_call (ok_l_is_name T) (hr.mono (by decide)) (by rfl) T.m_l_is_name T.F_l_is_name.kp (bd_l_is_name T) .nil pass0 (pa_cons (pv 6) pa_nil)) pa_nil)) (nomark _)) (pss_one (ps_ret (pe_bl))) pss_nil)
  (pss_one (ps_if (pt_cmpR (op_gNe hr.units) (pe_callB call_gRepr (by rfl) T.b_repr (by decide +kernel) (pa_cons (pe_call (ok_number_of T) (hr.mono (by decide)) (by rfl) T.m_number_of T.F_number_of.kp (bd_number_of T) .nil pass0 (pa_cons (pv 6) pa_nil)) pa_nil)) (pe_callB call_gRepr (by rfl) T.b_repr (by decide +kernel) (pa_cons (pe_call (ok_l_number_of T) (hr.mono (by decide)) (by rfl) T.m_l_number_of T.F_l_number_of.kp (bd_l_number_of T) .nil pass0 (pa_cons (pv 6) pa_nil)) pa_nil)) (nomark _)) (pss_one (ps_ret (pe_bl))) pss_nil))))
  (pss_cons (ps_set (i := 7) sc_law.nd rfl (by first | exact Or.inl rfl | exact Or.inr rfl) (pe_op op_gSub (pe_op op_gMod (pv 4) (pe_int)) (pe_int)))
  (pss_cons (ps_set (i := 8) sc_law.nd rfl (by first | exact Or.inl rfl | exact Or.inr rfl) (pe_op op_gAdd (pv 7) (pe_op op_gMod (pv 3) (pe_int))))
  (pss_cons (ps_set (i := 9) sc_law.nd rfl (by first | exact Or.inl rfl | exact Or.inr rfl) (pe_op op_gSub (pe_op op_gAdd (pv 7) (pe_op op_gMod (pe_op op_gFdv (pv 3) (pe_int)) (pe_int))) (pe_int)))
  (pss_cons (ps_if (pt_cmpR (op_gNe hr.units) (pe_callB call_gRepr (by rfl) T.b_repr (by decide +kernel) (pa_cons (pe_call (ok_is_among T) (hr.mono (by decide)) (by rfl) T.m_is_among T.F_is_among.kp (bd_is_among T) .nil pass0 (pa_cons (pv 9) (pa_cons (pv 7) (pa_cons (pv 8) pa_nil)))) pa_nil)) (pe_callB call_gRepr (by rfl) T.b_repr (by decide +kernel) (pa_cons (pe_chain op_gLe op_gLe (pv 7) (pv 9) (pv 8)) pa_nil)) (nomark _)) (pss_one (ps_ret (pe_bl))) pss_nil)
  (pss_cons (ps_set (i := 10) sc_law.nd rfl (by first | exact Or.inl rfl | exact Or.inr rfl) (pe_and (pe_callB call_isi (by rfl) T.b_isinstance (by decide +kernel) (pa_cons (pv 5) (pa_cons (pe_bltn (v := .ty "int") (by rfl) T.b_int (by decide +kernel) rfl) pa_nil))) (pe_and (pe_not (pe_callB call_isi (by rfl) T.b_isinstance (by decide +kernel) (pa_cons (pv 5) (pa_cons (pe_bltn (v := .ty "bool") (by rfl) T.b_bool (by decide +kernel) rfl) pa_nil)))) (pe_one (pe_chain op_gLe op_gLe (pv 7) (pv 5) (pv 8))))))
  (pss_one (ps_if (pt_cmpR (op_gNe hr.units) (pe_callB call_gRepr (by rfl) T.b_repr (by decide +kernel) (pa_cons (pe_call (ok_is_among T) (hr.mono (by decide)) (by rfl) T.m_is_among T.F_is_among.kp (bd_is_among T) .nil pass0 (pa_cons (pv 5) (pa_cons (pv 7) (pa_cons (pv 8) pa_nil)))) pa_nil)) (pe_callB call_gRepr (by rfl) T.b_repr (by decide +kernel) (pa_cons (pv 10) pa_nil)) (nomark _)) (pss_one (ps_ret (pe_bl))) pss_nil)))))))))))
  (pss_one (ps_ret (pe_bl)))))
end
theorem all_mk {l : PySem.W.OpenLaw} {w : World} {K : PySem.W.Frag} {h : Heap} {mg : Str → Option Value} {fa : Addr} (X : K.In h) (G : h.Ns mainGlobals mg) (hfa : mg "law" = some (.ref fa))
    {f0 f1 f2 f3 f4 f5 f6 f7 f8 f9 : Addr}
    {od0 an0 od1 an1 od2 an2 od3 an3 od4 an4 od5 an5 od6 an6 od7 an7 od8 an8 od9 an9 : Option Addr} {sl0 sl1 sl2 sl3 sl4 sl5 sl6 sl7 sl8 sl9 : Array (Option Value)} {oc0 kV0 dc0 pm0 cd0 ct0 oc1 kV1 dc1 pm1 cd1 ct1 oc2 kV2 dc2 pm2 cd2 ct2 oc3 kV3 dc3 pm3 cd3 ct3 oc4 kV4 dc4 pm4 cd4 ct4 oc5 kV5 dc5 pm5 cd5 ct5 oc6 kV6 dc6 pm6 cd6 ct6 oc7 kV7 dc7 pm7 cd7 ct7 oc8 kV8 dc8 pm8 cd8 ct8 oc9 kV9 dc9 pm9 cd9 ct9 : Value}
    (a0 : PySem.W.nsIn K mainGlobals "is_name" = some (some (.ref f0))) (l0 : K.lookup f0 = some ⟨oc0, od0, .func (PySem.W.fnOf "is_name" "is_name" (defArgs s_is_name) (defBody s_is_name) (defScope s_is_name) .none kV0 dc0 pm0 an0 cd0 ct0), sl0⟩) (c0 : PySem.W.codeIn K cd0 "is_name" = true) (k0 : PySem.W.keepIn K (.ref f0) = true)
    (a1 : PySem.W.nsIn K mainGlobals "is_among" = some (some (.ref f1))) (l1 : K.lookup f1 = some ⟨oc1, od1, .func (PySem.W.fnOf "is_among" "is_among" (defArgs s_is_among) (defBody s_is_among) (defScope s_is_among) .none kV1 dc1 pm1 an1 cd1 ct1), sl1⟩) (c1 : PySem.W.codeIn K cd1 "is_among" = true) (k1 : PySem.W.keepIn K (.ref f1) = true)
    (a2 : PySem.W.nsIn K mainGlobals "number_of" = some (some (.ref f2))) (l2 : K.lookup f2 = some ⟨oc2, od2, .func (PySem.W.fnOf "number_of" "number_of" (defArgs s_number_of) (defBody s_number_of) (defScope s_number_of) .none kV2 dc2 pm2 an2 cd2 ct2), sl2⟩) (c2 : PySem.W.codeIn K cd2 "number_of" = true) (k2 : PySem.W.keepIn K (.ref f2) = true)
    (a3 : PySem.W.nsIn K mainGlobals "_law_mixed" = some (some (.ref f3))) (l3 : K.lookup f3 = some ⟨oc3, od3, .func (PySem.W.fnOf "_law_mixed" "_law_mixed" (defArgs s_l_mixed) (defBody s_l_mixed) (defScope s_l_mixed) .none kV3 dc3 pm3 an3 cd3 ct3), sl3⟩) (c3 : PySem.W.codeIn K cd3 "_law_mixed" = true) (k3 : PySem.W.keepIn K (.ref f3) = true)
    (a4 : PySem.W.nsIn K mainGlobals "_law_number" = some (some (.ref f4))) (l4 : K.lookup f4 = some ⟨oc4, od4, .func (PySem.W.fnOf "_law_number" "_law_number" (defArgs s_l_number) (defBody s_l_number) (defScope s_l_number) .none kV4 dc4 pm4 an4 cd4 ct4), sl4⟩) (c4 : PySem.W.codeIn K cd4 "_law_number" = true) (k4 : PySem.W.keepIn K (.ref f4) = true)
    (a5 : PySem.W.nsIn K mainGlobals "_law_is_name" = some (some (.ref f5))) (l5 : K.lookup f5 = some ⟨oc5, od5, .func (PySem.W.fnOf "_law_is_name" "_law_is_name" (defArgs s_l_is_name) (defBody s_l_is_name) (defScope s_l_is_name) .none kV5 dc5 pm5 an5 cd5 ct5), sl5⟩) (c5 : PySem.W.codeIn K cd5 "_law_is_name" = true) (k5 : PySem.W.keepIn K (.ref f5) = true)
    (a6 : PySem.W.nsIn K mainGlobals "_law_number_of" = some (some (.ref f6))) (l6 : K.lookup f6 = some ⟨oc6, od6, .func (PySem.W.fnOf "_law_number_of" "_law_number_of" (defArgs s_l_number_of) (defBody s_l_number_of) (defScope s_l_number_of) .none kV6 dc6 pm6 an6 cd6 ct6), sl6⟩) (c6 : PySem.W.codeIn K cd6 "_law_number_of" = true) (k6 : PySem.W.keepIn K (.ref f6) = true)
    (a7 : PySem.W.nsIn K mainGlobals "_law_text" = some (some (.ref f7))) (l7 : K.lookup f7 = some ⟨oc7, od7, .func (PySem.W.fnOf "_law_text" "_law_text" (defArgs s_l_text) (defBody s_l_text) (defScope s_l_text) .none kV7 dc7 pm7 an7 cd7 ct7), sl7⟩) (c7 : PySem.W.codeIn K cd7 "_law_text" = true) (k7 : PySem.W.keepIn K (.ref f7) = true)
    (a8 : PySem.W.nsIn K mainGlobals "_law_figures" = some (some (.ref f8))) (l8 : K.lookup f8 = some ⟨oc8, od8, .func (PySem.W.fnOf "_law_figures" "_law_figures" (defArgs s_l_figures) (defBody s_l_figures) (defScope s_l_figures) .none kV8 dc8 pm8 an8 cd8 ct8), sl8⟩) (c8 : PySem.W.codeIn K cd8 "_law_figures" = true) (k8 : PySem.W.keepIn K (.ref f8) = true)
    (a9 : PySem.W.nsIn K mainGlobals "law" = some (some (.ref f9))) (l9 : K.lookup f9 = some ⟨oc9, od9, .func (PySem.W.fnOf "law" "law" (defArgs s_law) (defBody s_law) (defScope s_law) .none kV9 dc9 pm9 an9 cd9 ct9), sl9⟩) (c9 : PySem.W.codeIn K cd9 "law" = true) (k9 : PySem.W.keepIn K (.ref f9) = true)
    (n_all : PySem.W.nsIn K mainGlobals "all" = some none)
    (n_bool : PySem.W.nsIn K mainGlobals "bool" = some none)
    (n_int : PySem.W.nsIn K mainGlobals "int" = some none)
    (n_isinstance : PySem.W.nsIn K mainGlobals "isinstance" = some none)
    (n_len : PySem.W.nsIn K mainGlobals "len" = some none)
    (n_min : PySem.W.nsIn K mainGlobals "min" = some none)
    (n_range : PySem.W.nsIn K mainGlobals "range" = some none)
    (n_repr : PySem.W.nsIn K mainGlobals "repr" = some none)
    (n_str : PySem.W.nsIn K mainGlobals "str" = some none)
    {tk_GREATEST_NUMBER : Tok} (g_GREATEST_NUMBER : PySem.W.nsIn K mainGlobals "GREATEST_NUMBER" = some (some (.int 1000000000000 tk_GREATEST_NUMBER)))
    {tk_LONGEST_NAME : Tok} (g_LONGEST_NAME : PySem.W.nsIn K mainGlobals "LONGEST_NAME" = some (some (.int 8 tk_LONGEST_NAME)))
    {tk_MOST_FIGURES : Tok} (g_MOST_FIGURES : PySem.W.nsIn K mainGlobals "MOST_FIGURES" = some (some (.int 13 tk_MOST_FIGURES)))
    : ∃ fd : FuncData, (∀ (s : Shared) (v : Value), BindsTo s fd ⟨[v], []⟩ [("_law_script", v)]) ∧ ∀ base : Heap, K.In base → base.Ns mainGlobals mg → FnOk l.prog w K mg base CX0 3 fa fd ["_law_script"] (sp_law K) := by
  have e := hfa.symm.trans (PySem.W.mg_of X G a9)
  cases e
  let T : Tx K mg := ⟨_, _, fun_mk (st := s_is_name) l0 c0 k0, PySem.W.mg_of X G a0, _, _, fun_mk (st := s_is_among) l1 c1 k1, PySem.W.mg_of X G a1, _, _, fun_mk (st := s_number_of) l2 c2 k2, PySem.W.mg_of X G a2, _, _, fun_mk (st := s_l_mixed) l3 c3 k3, PySem.W.mg_of X G a3, _, _, fun_mk (st := s_l_number) l4 c4 k4, PySem.W.mg_of X G a4, _, _, fun_mk (st := s_l_is_name) l5 c5 k5, PySem.W.mg_of X G a5, _, _, fun_mk (st := s_l_number_of) l6 c6 k6, PySem.W.mg_of X G a6, _, _, fun_mk (st := s_l_text) l7 c7 k7, PySem.W.mg_of X G a7, _, _, fun_mk (st := s_l_figures) l8 c8 k8, PySem.W.mg_of X G a8, _, _, fun_mk (st := s_law) l9 c9 k9, PySem.W.mg_of X G a9, PySem.W.mg_none_of X G n_all, PySem.W.mg_none_of X G n_bool, PySem.W.mg_none_of X G n_int, PySem.W.mg_none_of X G n_isinstance, PySem.W.mg_none_of X G n_len, PySem.W.mg_none_of X G n_min, PySem.W.mg_none_of X G n_range, PySem.W.mg_none_of X G n_repr, PySem.W.mg_none_of X G n_str, _, PySem.W.mg_of X G g_GREATEST_NUMBER, _, PySem.W.mg_of X G g_LONGEST_NAME, _, PySem.W.mg_of X G g_MOST_FIGURES⟩
  exact ⟨_, fun s v => .of_eq rfl, fun base _ _ => ok_law T⟩
theorem walk {l : PySem.W.OpenLaw} {q : Program} {loose : List Str} {XP : (Str → Option Value) → Heap → Prop} {YP : World → Heap → Prop} {d : DefRec} {K : Params → PySem.W.Frag} (hn : l.most = some 63) (hdf : d.params.defaults = [])
    (hY : ∀ (w : World) (h : Heap), YP w h → (K w.params).In h)
    (F : ∀ (w : World) (mg : Str → Option Value) (fa : Addr) (h : Heap), (K w.params).In h → h.Ns mainGlobals mg → mg d.name = some (.ref fa) →
      ∃ fd : FuncData, (∀ (s : Shared) (u : Value), BindsTo s fd ⟨[u], []⟩ [("_law_script", u)]) ∧ ∀ base : Heap, (K w.params).In base → base.Ns mainGlobals mg → FnOk l.prog w (K w.params) mg base CX0 3 fa fd ["_law_script"] (sp_law (K w.params))) :
    PySem.W.WalkO q loose XP YP l.row.toRowW d [] (fun f vs => PySem.call f vs) :=
  L2.walk_of (n := 63) (k := 3) (x := "_law_script") (CX := fun _ => CX0) (sp := fun w => sp_law (K w.params)) hn (by decide) hdf ⟨rfl, by decide, by decide⟩ hY F (fun _ H a ns hl _ hS => law_end hl hS) fun _ _ _ _ _ z => z

end L01
open PySem PySem.W PyProof.Rows
set_option maxRecDepth 100000 in
set_option maxHeartbeats 0 in
theorem PySem.Challenge.cw_craneyard_k01_words_holds : PySem.Challenge.rw_craneyard_k01_words.Holds := by
  w_on; o_law; k_head; (case hw => w_witness2)
  k_fill
  refine L01.walk (l := PySem.Challenge.rw_craneyard_k01_words) rfl rfl (fun w h Y => PySem.W.kIn_of Y) ?F
  case F =>
    intro w mg fa h KX G hmg
    refine' L01.all_mk KX G hmg ?a0 ?l0 ?c0 ?k0 ?a1 ?l1 ?c1 ?k1 ?a2 ?l2 ?c2 ?k2 ?a3 ?l3 ?c3 ?k3 ?a4 ?l4 ?c4 ?k4 ?a5 ?l5 ?c5 ?k5 ?a6 ?l6 ?c6 ?k6 ?a7 ?l7 ?c7 ?k7 ?a8 ?l8 ?c8 ?k8 ?a9 ?l9 ?c9 ?k9 ?n_all ?n_bool ?n_int ?n_isinstance ?n_len ?n_min ?n_range ?n_repr ?n_str ?g_GREATEST_NUMBER ?g_LONGEST_NAME ?g_MOST_FIGURES
    (case a0 => k_is)
    (case l0 => k_is)
    (case c0 => k_is)
    (case k0 => k_is)
    (case a1 => k_is)
    (case l1 => k_is)
    (case c1 => k_is)
    (case k1 => k_is)
    (case a2 => k_is)
    (case l2 => k_is)
    (case c2 => k_is)
    (case k2 => k_is)
    (case a3 => k_is)
    (case l3 => k_is)
    (case c3 => k_is)
    (case k3 => k_is)
    (case a4 => k_is)
    (case l4 => k_is)
    (case c4 => k_is)
    (case k4 => k_is)
    (case a5 => k_is)
    (case l5 => k_is)
    (case c5 => k_is)
    (case k5 => k_is)
    (case a6 => k_is)
    (case l6 => k_is)
    (case c6 => k_is)
    (case k6 => k_is)
    (case a7 => k_is)
    (case l7 => k_is)
    (case c7 => k_is)
    (case k7 => k_is)
    (case a8 => k_is)
    (case l8 => k_is)
    (case c8 => k_is)
    (case k8 => k_is)
    (case a9 => k_is)
    (case l9 => k_is)
    (case c9 => k_is)
    (case k9 => k_is)
    (case n_all => k_is)
    (case n_bool => k_is)
    (case n_int => k_is)
    (case n_isinstance => k_is)
    (case n_len => k_is)
    (case n_min => k_is)
    (case n_range => k_is)
    (case n_repr => k_is)
    (case n_str => k_is)
    (case g_GREATEST_NUMBER => k_is)
    (case g_LONGEST_NAME => k_is)
    (case g_MOST_FIGURES => k_is)

