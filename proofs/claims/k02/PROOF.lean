import PyProof.Rows.All
import Wide.All
import OpenK.AllK
import Wide.FinOn
import HandS.ForMost
import HandS.Evl
import HandS.Walk
import HandS.IsInst
import HandS.Wide
import HandS.Style
import HandS.RevRange
import HandS.Replace
import HandS.RaiseMore
import HandS.Exc
import HandS.ExcOwn
import HandS.ExcIs
import HandS.ExcValue
import HandS.Conv
import HandS.TryOnly
import HandS.WordsExc
import PyProof.ReprRoads
import PySem.Challenge.RW_craneyard_k02_rails
set_option Elab.async false
set_option linter.all false
set_option maxRecDepth 100000
set_option maxHeartbeats 2000000
namespace Cy
open PySem L2 Evl

/-! an exception that was caught and is kept: tracked, by its class -/
def ExK (cls : Value) (d : Option Addr) (a : Addr) : HO := .ext fun h => ∃ (oe : Obj) (vs : Array Value), h.get? a = some oe ∧ Zc cls d oe ∧ oe.data = .fields vs

/-! data as trees; how a value bears them -/
inductive D where
  | non
  | bl (b : Bool)
  | int (i : Int)
  | str (s : Str)
  | lst (xs : List D)
  | tup (xs : List D)
  | dic (es : List (D × D))
  | obj (C : Addr) (fs : List (Str × D))
  | scr (xs : List Int)
  | exc (C : Addr)

mutual
inductive Rp (K : PySem.W.Frag) (F : Hp) : V → D → Prop
  | non : Rp K F .non .non
  | bl (b : Bool) : Rp K F (.bl b) (.bl b)
  | int (i : Int) : Rp K F (.int i) (.int i)
  | str (x : Str) : Rp K F (.str x) (.str x)
  | lst {a : Addr} {xs : List V} {ds : List D} : F a = some (.lst xs) → RpA K F xs ds → Rp K F (.ref a) (.lst ds)
  | tup {a : Addr} {xs : List V} {ds : List D} : F a = some (.tup xs) → RpA K F xs ds → Rp K F (.ref a) (.tup ds)
  | dic {a : Addr} {kvs : List (Key × V)} {es : List (D × D)} : F a = some (.dK kvs) → RpA K F (kvs.map fun p => kV p.1) (es.map fun p => p.1) → RpA K F (kvs.map fun p => p.2) (es.map fun p => p.2) → Rp K F (.ref a) (.dic es)
  | obj {a C dx : Addr} {gs : List (Str × V)} {fs : List (Str × D)} : F a = some (.ins C dx gs) → gs.map (fun p => p.1) = fs.map (fun p => p.1) → RpA K F (gs.map fun p => p.2) (fs.map fun p => p.2) → Rp K F (.ref a) (.obj C fs)
  | scr {a : Addr} {ns : List Int} : SqL K F a (ns.map V.int) → Rp K F (.ref a) (.scr ns)
  | exc {a C : Addr} : F a = some (ExK (.ref C) none a) → Rp K F (.ref a) (.exc C)
inductive RpA (K : PySem.W.Frag) (F : Hp) : List V → List D → Prop
  | nil : RpA K F [] []
  | cons {v : V} {vs : List V} {d : D} {ds : List D} : Rp K F v d → RpA K F vs ds → RpA K F (v :: vs) (d :: ds)
end

section
variable {K : PySem.W.Frag} {F F' H H' : Hp}
mutual
theorem Rp.mono (e : Ex F F') : ∀ {v : V} {d : D}, Rp K F v d → Rp K F' v d
  | _, _, .non => .non
  | _, _, .bl b => .bl b
  | _, _, .int i => .int i
  | _, _, .str x => .str x
  | _, _, .lst h r => .lst (e _ _ h) (RpA.mono e r)
  | _, _, .tup h r => .tup (e _ _ h) (RpA.mono e r)
  | _, _, .dic h r1 r2 => .dic (e _ _ h) (RpA.mono e r1) (RpA.mono e r2)
  | _, _, .obj h n r => .obj (e _ _ h) n (RpA.mono e r)
  | _, _, .scr h => .scr (ex_l e h)
  | _, _, .exc h => .exc (e _ _ h)
theorem RpA.mono (e : Ex F F') : ∀ {vs : List V} {ds : List D}, RpA K F vs ds → RpA K F' vs ds
  | _, _, .nil => .nil
  | _, _, .cons r t => .cons (Rp.mono e r) (RpA.mono e t)
end
theorem RpA.length : ∀ {vs : List V} {ds : List D}, RpA K F vs ds → vs.length = ds.length
  | _, _, .nil => rfl
  | _, _, .cons _ t => by rw [List.length_cons, List.length_cons, RpA.length t]
theorem RpA.get : ∀ {vs : List V} {ds : List D} {i : Nat} {d : D}, RpA K F vs ds → ds[i]? = some d → ∃ v, vs[i]? = some v ∧ Rp K F v d
  | _, _, i, d, .nil, h => by simp at h
  | _, _, 0, d, .cons r _, h => by
    simp at h
    subst h
    exact ⟨_, rfl, r⟩
  | _, _, i + 1, d, .cons _ t, h => by
    obtain ⟨v, h1, h2⟩ := RpA.get (i := i) (d := d) t (by simpa using h)
    exact ⟨v, by simpa using h1, h2⟩
theorem RpA.app : ∀ {vs : List V} {ds : List D} {ws : List V} {es : List D}, RpA K F vs ds → RpA K F ws es → RpA K F (vs ++ ws) (ds ++ es)
  | _, _, _, _, .nil, s => s
  | _, _, _, _, .cons r t, s => .cons r (RpA.app t s)
theorem RpA.take : ∀ {vs : List V} {ds : List D} (n : Nat), RpA K F vs ds → RpA K F (vs.take n) (ds.take n)
  | _, _, 0, _ => .nil
  | _, _, _ + 1, .nil => .nil
  | _, _, n + 1, .cons r t => .cons r (RpA.take n t)
theorem RpA.drop : ∀ {vs : List V} {ds : List D} (n : Nat), RpA K F vs ds → RpA K F (vs.drop n) (ds.drop n)
  | _, _, 0, r => r
  | _, _, _ + 1, .nil => .nil
  | _, _, n + 1, .cons _ t => RpA.drop n t
theorem RpA.set {v : V} {d : D} (r : Rp K F v d) : ∀ {vs : List V} {ds : List D} (i : Nat), RpA K F vs ds → RpA K F (vs.set i v) (ds.set i d)
  | _, _, _, .nil => .nil
  | _, _, 0, .cons _ t => .cons r t
  | _, _, i + 1, .cons q t => .cons q (RpA.set r i t)
theorem RpA.erase : ∀ {vs : List V} {ds : List D} (i : Nat), RpA K F vs ds → RpA K F (vs.eraseIdx i) (ds.eraseIdx i)
  | _, _, _, .nil => .nil
  | _, _, 0, .cons _ t => t
  | _, _, i + 1, .cons q t => .cons q (RpA.erase i t)
theorem RpA.rev {vs : List V} {ds : List D} (h : RpA K F vs ds) : RpA K F vs.reverse ds.reverse := by
  induction vs generalizing ds with
  | nil =>
    cases h
    exact .nil
  | cons v vs ih =>
    cases h with
    | cons r t =>
      rw [List.reverse_cons, List.reverse_cons]
      exact RpA.app (ih t) (.cons r .nil)
theorem RpA.ints : ∀ {ns : List Int} {vs : List V}, RpA K F vs (ns.map D.int) → vs = ns.map V.int
  | [], _, h => by
    cases h
    rfl
  | n :: ns, _, h => by
    cases h with
    | cons r t =>
      cases r
      rw [RpA.ints t]
      rfl
theorem RpA.ofInts : ∀ ns : List Int, RpA K F (ns.map V.int) (ns.map D.int)
  | [] => .nil
  | n :: ns => .cons (.int n) (RpA.ofInts ns)
theorem RpA.bls : ∀ {ns : List Bool} {vs : List V}, RpA K F vs (ns.map D.bl) → vs = ns.map V.bl
  | [], _, h => by
    cases h
    rfl
  | n :: ns, _, h => by
    cases h with
    | cons r t =>
      cases r
      rw [RpA.bls t]
      rfl
theorem RpA.strs : ∀ {ns : List Str} {vs : List V}, RpA K F vs (ns.map D.str) → vs = ns.map V.str
  | [], _, h => by
    cases h
    rfl
  | n :: ns, _, h => by
    cases h with
    | cons r t =>
      cases r
      rw [RpA.strs t]
      rfl
end

/-! what stands in the slots -/
inductive Ow where
  | lst (l : List D)
  | ins (a C : Addr) (fs : List (Str × D))
inductive Sl where
  | no
  | dat (d : D)
  | own (w : Ow)
inductive BearO (K : PySem.W.Frag) (F : Hp) : Addr → HO → Ow → Prop
  | lst {p : Addr} {xs : List V} {l : List D} : RpA K F xs l → BearO K F p (.lst xs) (.lst l)
  | ins {a C dx : Addr} {gs : List (Str × V)} {fs : List (Str × D)} : gs.map (fun p => p.1) = fs.map (fun p => p.1) → RpA K F (gs.map fun p => p.2) (fs.map fun p => p.2) → BearO K F a (.ins C dx gs) (.ins a C fs)
theorem BearO.mono {K : PySem.W.Frag} {F F' : Hp} (e : Ex F F') {p : Addr} {o : HO} {w : Ow} (h : BearO K F p o w) : BearO K F' p o w := by
  cases h with
  | lst r => exact .lst (r.mono e)
  | ins n r => exact .ins n (r.mono e)
def datOf : Ow → D
  | .lst l => .lst l
  | .ins _ C fs => .obj C fs
theorem BearO.rp {K : PySem.W.Frag} {F : Hp} {p : Addr} {o : HO} {w : Ow} (h : BearO K F p o w) (hp : F p = some o) : Rp K F (.ref p) (datOf w) := by
  cases h with
  | lst r => exact .lst hp r
  | ins n r => exact .obj hp n r

structure En (K : PySem.W.Frag) (H0 F0 F H : Hp) (σ : L2.St) (G : List Sl) : Prop where
  dat : ∀ (i : Nat) (d : D), G[i]? = some (.dat d) → ∃ v, σ[i]? = some (some v) ∧ Rp K F v d
  own : ∀ (i : Nat) (w : Ow), G[i]? = some (.own w) → ∃ p o, σ[i]? = some (some (.ref p)) ∧ F p = none ∧ H0 p = none ∧ H p = some o ∧ BearO K F p o w
  dis : ∀ (i j : Nat) (li lj : Ow) (p : Addr), i ≠ j → G[i]? = some (.own li) → G[j]? = some (.own lj) → σ[i]? = some (some (.ref p)) → σ[j]? ≠ some (some (.ref p))
  e0 : Ex H0 H
  ef : Ex F H
  e1 : Ex F0 F
  nf : ∀ a o, F a = some o → F0 a = some o ∨ H0 a = none
  len : σ.length = G.length

/-- the new part of F' was free in H -/
def Nw (F F' H : Hp) : Prop := ∀ a o, F' a = some o → F a = some o ∨ H a = none
theorem Nw.refl (F H : Hp) : Nw F F H := fun _ _ h => .inl h

theorem ex_none {H H' : Hp} (e : Ex H H') {a : Addr} (h : H' a = none) : H a = none := fresh_back e h

section
variable {K : PySem.W.Frag} {H0 F0 F F' H H' : Hp} {σ : L2.St} {G : List Sl}
/-- a bigger footprint, a bigger heap -/
theorem En.grow (E : En K H0 F0 F H σ G) (e1 : Ex F F') (e2 : Ex H H') (e3 : Ex F' H') (n : Nw F F' H) : En K H0 F0 F' H' σ G where
  dat := fun i d h => by
    obtain ⟨v, a, b⟩ := E.dat i d h
    exact ⟨v, a, b.mono e1⟩
  own := fun i l h => by
    obtain ⟨p, xs, a, b, c, d, r⟩ := E.own i l h
    refine ⟨p, xs, a, ?_, c, e2 _ _ d, r.mono e1⟩
    cases q : F' p with
    | none => rfl
    | some o =>
      rcases n p o q with z | z
      · rw [b] at z
        cases z
      · rw [d] at z
        cases z
  dis := E.dis
  e0 := E.e0.trans e2
  ef := e3
  e1 := E.e1.trans e1
  nf := fun a o h => by
    rcases n a o h with z | z
    · exact E.nf a o z
    · exact .inr (ex_none E.e0 z)
  len := E.len
/-- a new object joins both -/
theorem nw_upd {p : Addr} {o : HO} (h : H p = none) (n : Nw F F' H) : Nw F (upd F' p o) H := fun a u q => by
  by_cases e : a = p
  · subst e
    exact .inr h
  · rw [upd_ne e] at q
    exact n a u q
theorem ex_upd_both {p : Addr} {o : HO} (e : Ex F H) : Ex (upd F p o) (upd H p o) := fun a u q => by
  by_cases z : a = p
  · subst z
    rw [upd_same] at q ⊢
    exact q
  · rw [upd_ne z] at q ⊢
    exact e a u q
theorem En.setD (E : En K H0 F0 F H σ G) {v : V} {d : D} (r : Rp K F v d) (i : Nat) : En K H0 F0 F H (σ.set i (some v)) (G.set i (.dat d)) where
  dat := fun j e h => by
    by_cases q : i = j
    · subst q
      by_cases hl : i < G.length
      · rw [List.getElem?_set_self hl] at h
        cases h
        exact ⟨v, List.getElem?_set_self (by rw [E.len]; exact hl), r⟩
      · rw [List.getElem?_eq_none (by rw [List.length_set]; omega)] at h
        cases h
    · rw [List.getElem?_set_ne q] at h ⊢
      exact E.dat j e h
  own := fun j l h => by
    by_cases q : i = j
    · subst q
      by_cases hl : i < G.length
      · rw [List.getElem?_set_self hl] at h
        cases h
      · rw [List.getElem?_eq_none (by rw [List.length_set]; omega)] at h
        cases h
    · rw [List.getElem?_set_ne q] at h ⊢
      exact E.own j l h
  dis := fun a b la lb p hab h1 h2 h3 => by
    have na : i ≠ a := fun q => by
      subst q
      by_cases hl : i < G.length
      · rw [List.getElem?_set_self hl] at h1
        cases h1
      · rw [List.getElem?_eq_none (by rw [List.length_set]; omega)] at h1
        cases h1
    have nb : i ≠ b := fun q => by
      subst q
      by_cases hl : i < G.length
      · rw [List.getElem?_set_self hl] at h2
        cases h2
      · rw [List.getElem?_eq_none (by rw [List.length_set]; omega)] at h2
        cases h2
    rw [List.getElem?_set_ne na] at h1 h3
    rw [List.getElem?_set_ne nb] at h2 ⊢
    exact E.dis a b la lb p hab h1 h2 h3
  e0 := E.e0
  ef := E.ef
  e1 := E.e1
  nf := E.nf
  len := by rw [List.length_set, List.length_set, E.len]
theorem En.setO (E : En K H0 F0 F H σ G) {p : Addr} {o : HO} {l : Ow} (hF : F p = none) (h0 : H0 p = none) (hH : H p = some o) (r : BearO K F p o l) (i : Nat)
    (hn : ∀ (j : Nat) (lj : Ow), G[j]? = some (.own lj) → i ≠ j → σ[j]? ≠ some (some (.ref p))) : En K H0 F0 F H (σ.set i (some (.ref p))) (G.set i (.own l)) where
  dat := fun j e h => by
    by_cases q : i = j
    · subst q
      by_cases hl : i < G.length
      · rw [List.getElem?_set_self hl] at h
        cases h
      · rw [List.getElem?_eq_none (by rw [List.length_set]; omega)] at h
        cases h
    · rw [List.getElem?_set_ne q] at h ⊢
      exact E.dat j e h
  own := fun j l' h => by
    by_cases q : i = j
    · subst q
      by_cases hl : i < G.length
      · rw [List.getElem?_set_self hl] at h
        cases h
        exact ⟨p, o, List.getElem?_set_self (by rw [E.len]; exact hl), hF, h0, hH, r⟩
      · rw [List.getElem?_eq_none (by rw [List.length_set]; omega)] at h
        cases h
    · rw [List.getElem?_set_ne q] at h ⊢
      exact E.own j l' h
  dis := fun a b la lb p' hab h1 h2 h3 => by
    by_cases qa : i = a
    · subst qa
      rw [List.getElem?_set_ne hab] at h2 ⊢
      have hl : i < σ.length := by
        have := (List.getElem?_eq_some_iff.mp h3).1
        rw [List.length_set] at this
        exact this
      rw [List.getElem?_set_self hl] at h3
      cases h3
      exact hn b lb h2 hab
    · rw [List.getElem?_set_ne qa] at h1 h3
      by_cases qb : i = b
      · subst qb
        intro z
        have hl : i < σ.length := by
          have := (List.getElem?_eq_some_iff.mp z).1
          rw [List.length_set] at this
          exact this
        rw [List.getElem?_set_self hl] at z
        cases z
        exact hn a la h1 qa h3
      · rw [List.getElem?_set_ne qb] at h2 ⊢
        exact E.dis a b la lb p' hab h1 h2 h3
  e0 := E.e0
  ef := E.ef
  e1 := E.e1
  nf := E.nf
  len := by rw [List.length_set, List.length_set, E.len]
/-- the owned list of slot i becomes xs' -/
theorem En.mut (E : En K H0 F0 F H σ G) {i : Nat} {l : Ow} (h : G[i]? = some (.own l)) {p : Addr} (hp : σ[i]? = some (some (.ref p))) {o' : HO} {l' : Ow} (r : BearO K F p o' l') :
    En K H0 F0 F (upd H p o') σ (G.set i (.own l')) := by
  obtain ⟨p', xs, a, b, c, d, _⟩ := E.own i l h
  have ep : p' = p := by
    rw [hp] at a
    cases a
    rfl
  subst ep
  have hl : i < G.length := (List.getElem?_eq_some_iff.mp h).1
  refine ⟨fun j e q => ?_, fun j m q => ?_, fun x y lx ly p'' hxy h1 h2 h3 => ?_, fun z o q => ?_, fun z o q => ?_, E.e1, E.nf, by rw [List.length_set, E.len]⟩
  · by_cases hij : i = j
    · subst hij
      rw [List.getElem?_set_self hl] at q
      cases q
    · rw [List.getElem?_set_ne hij] at q
      exact E.dat j e q
  · by_cases hij : i = j
    · subst hij
      rw [List.getElem?_set_self hl] at q
      cases q
      exact ⟨p', o', hp, b, c, upd_same, r⟩
    · rw [List.getElem?_set_ne hij] at q
      obtain ⟨p2, xs2, a2, b2, c2, d2, r2⟩ := E.own j m q
      have hne : p2 ≠ p' := fun z => by
        subst z
        exact E.dis i j l m p2 hij h q hp a2
      exact ⟨p2, xs2, a2, b2, c2, by rw [upd_ne hne]; exact d2, r2⟩
  · have w : ∀ (x : Nat) (lx : Ow), (G.set i (.own l'))[x]? = some (.own lx) → ∃ m, G[x]? = some (.own m) := fun x lx q => by
      by_cases hix : i = x
      · subst hix
        exact ⟨l, h⟩
      · rw [List.getElem?_set_ne hix] at q
        exact ⟨lx, q⟩
    obtain ⟨m1, q1⟩ := w x lx h1
    obtain ⟨m2, q2⟩ := w y ly h2
    exact E.dis x y m1 m2 p'' hxy q1 q2 h3
  · have hne : z ≠ p' := fun y => by
      subst y
      rw [c] at q
      cases q
    rw [upd_ne hne]
    exact E.e0 z o q
  · have hne : z ≠ p' := fun y => by
      subst y
      rw [b] at q
      cases q
    rw [upd_ne hne]
    exact E.ef z o q
/-- an owned list is shared from here on -/
theorem En.freeze (E : En K H0 F0 F H σ G) {i : Nat} {l : Ow} (h : G[i]? = some (.own l)) : ∃ F', Ex F F' ∧ En K H0 F0 F' H σ (G.set i (.dat (datOf l))) := by
  obtain ⟨p, xs, a, b, c, d, r⟩ := E.own i l h
  have hl : i < G.length := (List.getElem?_eq_some_iff.mp h).1
  have ef : Ex F (upd F p xs) := Ex.new b
  refine ⟨upd F p xs, ef, fun j e q => ?_, fun j m q => ?_, fun x y lx ly p'' hxy h1 h2 h3 => ?_, E.e0, fun z o q => ?_, E.e1.trans ef, fun z o q => ?_, by rw [List.length_set, E.len]⟩
  · by_cases hij : i = j
    · subst hij
      rw [List.getElem?_set_self hl] at q
      cases q
      exact ⟨_, a, (r.mono ef).rp upd_same⟩
    · rw [List.getElem?_set_ne hij] at q
      obtain ⟨v, q1, q2⟩ := E.dat j e q
      exact ⟨v, q1, q2.mono ef⟩
  · by_cases hij : i = j
    · subst hij
      rw [List.getElem?_set_self hl] at q
      cases q
    · rw [List.getElem?_set_ne hij] at q
      obtain ⟨p2, xs2, a2, b2, c2, d2, r2⟩ := E.own j m q
      have hne : p2 ≠ p := fun z => by
        subst z
        exact E.dis i j l m p2 hij h q a a2
      exact ⟨p2, xs2, a2, by rw [upd_ne hne]; exact b2, c2, d2, r2.mono ef⟩
  · have nx : i ≠ x := fun z => by
      subst z
      rw [List.getElem?_set_self hl] at h1
      cases h1
    have ny : i ≠ y := fun z => by
      subst z
      rw [List.getElem?_set_self hl] at h2
      cases h2
    rw [List.getElem?_set_ne nx] at h1
    rw [List.getElem?_set_ne ny] at h2
    exact E.dis x y lx ly p'' hxy h1 h2 h3
  · by_cases hz : z = p
    · subst hz
      rw [upd_same] at q
      cases q
      exact d
    · rw [upd_ne hz] at q
      exact E.ef z o q
  · by_cases hz : z = p
    · subst hz
      exact .inr c
    · rw [upd_ne hz] at q
      exact E.nf z o q
end
end Cy

set_option Elab.async false
set_option linter.all false
set_option maxRecDepth 100000
set_option maxHeartbeats 2000000
namespace Cy
open PySem L2 Evl

/-! expressions over the data in the slots -/
structure EvD (K : PySem.W.Frag) (te : TE) (G : List Sl) (d : D) : Prop where
  run : ∀ {H0 F0 F H : Hp} {σ : L2.St}, En K H0 F0 F H σ G → ∀ Q : VK, (∀ v F' H', En K H0 F0 F' H' σ G → Ex F F' → Ex H H' → Nw F F' H → Rp K F' v d → Q v H') → te σ H Q
instance {K : PySem.W.Frag} {te : TE} {G : List Sl} {d : D} : CoeFun (EvD K te G d) fun _ => ∀ {H0 F0 F H : Hp} {σ : L2.St}, En K H0 F0 F H σ G → ∀ Q : VK, (∀ v F' H', En K H0 F0 F' H' σ G → Ex F F' → Ex H H' → Nw F F' H → Rp K F' v d → Q v H') → te σ H Q := ⟨fun h => h.run⟩
/-- a new list of its own -/
structure EvO (K : PySem.W.Frag) (te : TE) (G : List Sl) (l : List D) : Prop where
  run : ∀ {H0 F0 F H : Hp} {σ : L2.St}, En K H0 F0 F H σ G → ∀ Q : VK, (∀ p xs F' H', En K H0 F0 F' H' σ G → Ex F F' → Ex H H' → Nw F F' H → H p = none → F' p = none → H' p = some (.lst xs) → RpA K F' xs l → Q (.ref p) H') → te σ H Q
instance {K : PySem.W.Frag} {te : TE} {G : List Sl} {l : List D} : CoeFun (EvO K te G l) fun _ => ∀ {H0 F0 F H : Hp} {σ : L2.St}, En K H0 F0 F H σ G → ∀ Q : VK, (∀ p xs F' H', En K H0 F0 F' H' σ G → Ex F F' → Ex H H' → Nw F F' H → H p = none → F' p = none → H' p = some (.lst xs) → RpA K F' xs l → Q (.ref p) H') → te σ H Q := ⟨fun h => h.run⟩
structure EvTt (K : PySem.W.Frag) (tt : TT) (G : List Sl) (b : Bool) : Prop where
  run : ∀ {H0 F0 F H : Hp} {σ : L2.St}, En K H0 F0 F H σ G → ∀ Q : Bool → Hp → Prop, (∀ F' H', En K H0 F0 F' H' σ G → Ex F F' → Ex H H' → Nw F F' H → Q b H') → tt σ H Q
instance {K : PySem.W.Frag} {tt : TT} {G : List Sl} {b : Bool} : CoeFun (EvTt K tt G b) fun _ => ∀ {H0 F0 F H : Hp} {σ : L2.St}, En K H0 F0 F H σ G → ∀ Q : Bool → Hp → Prop, (∀ F' H', En K H0 F0 F' H' σ G → Ex F F' → Ex H H' → Nw F F' H → Q b H') → tt σ H Q := ⟨fun h => h.run⟩
structure EvS (K : PySem.W.Frag) (ta : TA) (G : List Sl) (ds : List D) : Prop where
  run : ∀ {H0 F0 F H : Hp} {σ : L2.St}, En K H0 F0 F H σ G → ∀ Q : List V → Hp → Prop, (∀ vs F' H', En K H0 F0 F' H' σ G → Ex F F' → Ex H H' → Nw F F' H → RpA K F' vs ds → Q vs H') → ta σ H Q
instance {K : PySem.W.Frag} {ta : TA} {G : List Sl} {ds : List D} : CoeFun (EvS K ta G ds) fun _ => ∀ {H0 F0 F H : Hp} {σ : L2.St}, En K H0 F0 F H σ G → ∀ Q : List V → Hp → Prop, (∀ vs F' H', En K H0 F0 F' H' σ G → Ex F F' → Ex H H' → Nw F F' H → RpA K F' vs ds → Q vs H') → ta σ H Q := ⟨fun h => h.run⟩
structure EvP (K : PySem.W.Frag) (to : TO) (G : List Sl) (o : Option Int) : Prop where
  run : ∀ {H0 F0 F H : Hp} {σ : L2.St}, En K H0 F0 F H σ G → ∀ Q : Option Int → Hp → Prop, (∀ F' H', En K H0 F0 F' H' σ G → Ex F F' → Ex H H' → Nw F F' H → Q o H') → to σ H Q
instance {K : PySem.W.Frag} {to : TO} {G : List Sl} {o : Option Int} : CoeFun (EvP K to G o) fun _ => ∀ {H0 F0 F H : Hp} {σ : L2.St}, En K H0 F0 F H σ G → ∀ Q : Option Int → Hp → Prop, (∀ F' H', En K H0 F0 F' H' σ G → Ex F F' → Ex H H' → Nw F F' H → Q o H') → to σ H Q := ⟨fun h => h.run⟩
/-- operations on values -/
structure Op2 (K : PySem.W.Frag) (r : R2) (a b c : D) : Prop where
  run : ∀ {F H : Hp} {x y : V}, Ex F H → Rp K F x a → Rp K F y b → ∀ Q : VK, (∀ v F' H', Ex F F' → Ex F' H' → Ex H H' → Nw F F' H → Rp K F' v c → Q v H') → r x y H Q
instance {K : PySem.W.Frag} {r : R2} {a b c : D} : CoeFun (Op2 K r a b c) fun _ => ∀ {F H : Hp} {x y : V}, Ex F H → Rp K F x a → Rp K F y b → ∀ Q : VK, (∀ v F' H', Ex F F' → Ex F' H' → Ex H H' → Nw F F' H → Rp K F' v c → Q v H') → r x y H Q := ⟨fun h => h.run⟩
structure Op2O (K : PySem.W.Frag) (r : R2) (a b : D) (l : List D) : Prop where
  run : ∀ {F H : Hp} {x y : V}, Ex F H → Rp K F x a → Rp K F y b → ∀ Q : VK, (∀ p xs H', Ex H H' → H p = none → H' p = some (.lst xs) → RpA K F xs l → Q (.ref p) H') → r x y H Q
instance {K : PySem.W.Frag} {r : R2} {a b : D} {l : List D} : CoeFun (Op2O K r a b l) fun _ => ∀ {F H : Hp} {x y : V}, Ex F H → Rp K F x a → Rp K F y b → ∀ Q : VK, (∀ p xs H', Ex H H' → H p = none → H' p = some (.lst xs) → RpA K F xs l → Q (.ref p) H') → r x y H Q := ⟨fun h => h.run⟩
structure Op1 (K : PySem.W.Frag) (r : V → Hp → VK → Prop) (a c : D) : Prop where
  run : ∀ {F H : Hp} {x : V}, Ex F H → Rp K F x a → ∀ Q : VK, (∀ v F' H', Ex F F' → Ex F' H' → Ex H H' → Nw F F' H → Rp K F' v c → Q v H') → r x H Q
instance {K : PySem.W.Frag} {r : V → Hp → VK → Prop} {a c : D} : CoeFun (Op1 K r a c) fun _ => ∀ {F H : Hp} {x : V}, Ex F H → Rp K F x a → ∀ Q : VK, (∀ v F' H', Ex F F' → Ex F' H' → Ex H H' → Nw F F' H → Rp K F' v c → Q v H') → r x H Q := ⟨fun h => h.run⟩
structure OpN (K : PySem.W.Frag) (r : List V → Hp → VK → Prop) (ds : List D) (c : D) : Prop where
  run : ∀ {F H : Hp} {vs : List V}, Ex F H → RpA K F vs ds → ∀ Q : VK, (∀ v F' H', Ex F F' → Ex F' H' → Ex H H' → Nw F F' H → Rp K F' v c → Q v H') → r vs H Q
instance {K : PySem.W.Frag} {r : List V → Hp → VK → Prop} {ds : List D} {c : D} : CoeFun (OpN K r ds c) fun _ => ∀ {F H : Hp} {vs : List V}, Ex F H → RpA K F vs ds → ∀ Q : VK, (∀ v F' H', Ex F F' → Ex F' H' → Ex H H' → Nw F F' H → Rp K F' v c → Q v H') → r vs H Q := ⟨fun h => h.run⟩
structure OpNO (K : PySem.W.Frag) (r : List V → Hp → VK → Prop) (ds : List D) (l : List D) : Prop where
  run : ∀ {F H : Hp} {vs : List V}, Ex F H → RpA K F vs ds → ∀ Q : VK, (∀ p xs H', Ex H H' → H p = none → H' p = some (.lst xs) → RpA K F xs l → Q (.ref p) H') → r vs H Q
instance {K : PySem.W.Frag} {r : List V → Hp → VK → Prop} {ds : List D} {l : List D} : CoeFun (OpNO K r ds l) fun _ => ∀ {F H : Hp} {vs : List V}, Ex F H → RpA K F vs ds → ∀ Q : VK, (∀ p xs H', Ex H H' → H p = none → H' p = some (.lst xs) → RpA K F xs l → Q (.ref p) H') → r vs H Q := ⟨fun h => h.run⟩

section
variable {K : PySem.W.Frag} {G : List Sl} {ta tb te tx : TE} {t u : TT} {a b c d : D} {r : R2}
theorem Nw.trans {F F1 F2 H H1 : Hp} (a : Nw F F1 H) (b : Nw F1 F2 H1) (e : Ex H H1) : Nw F F2 H := fun x o h => by
  rcases b x o h with z | z
  · exact a x o z
  · exact .inr (ex_none e z)
theorem e_var {i : Nat} (h : G[i]? = some (.dat d)) : EvD K (tVar i) G d := .mk fun {H0 F0 F H σ} E Q q => by
  obtain ⟨v, h1, h2⟩ := E.dat i d h
  exact ⟨v, h1, q v F H E (Ex.refl F) (Ex.refl H) (Nw.refl F H) h2⟩
theorem e_none : EvD K (tC .non) G .non := .mk fun {H0 F0 F H σ} E Q q => q _ F H E (Ex.refl F) (Ex.refl H) (Nw.refl F H) .non
theorem e_int {i : Int} : EvD K (tC (.int i)) G (.int i) := .mk fun {H0 F0 F H σ} E Q q => q _ F H E (Ex.refl F) (Ex.refl H) (Nw.refl F H) (.int i)
theorem e_bl {i : Bool} : EvD K (tC (.bl i)) G (.bl i) := .mk fun {H0 F0 F H σ} E Q q => q _ F H E (Ex.refl F) (Ex.refl H) (Nw.refl F H) (.bl i)
theorem e_str {i : Str} : EvD K (tC (.str i)) G (.str i) := .mk fun {H0 F0 F H σ} E Q q => q _ F H E (Ex.refl F) (Ex.refl H) (Nw.refl F H) (.str i)
theorem e_is (h : EvD K te G a) (e : a = b) : EvD K te G b := e ▸ h
theorem t_is {x y : Bool} (h : EvTt K t G x) (e : x = y) : EvTt K t G y := e ▸ h
theorem e_op (h1 : EvD K ta G a) (h2 : EvD K tb G b) (h3 : Op2 K r a b c) : EvD K (tOp r ta tb) G c := .mk fun {H0 F0 F H σ} E Q q =>
  h1 E _ fun v F1 H1 E1 f1 g1 n1 r1 => h2 E1 _ fun w F2 H2 E2 f2 g2 n2 r2 => h3 E2.ef (r1.mono f2) r2 Q fun z F3 H3 f3 k3 g3 n3 r3 =>
    q z F3 H3 (E2.grow f3 g3 k3 n3) ((f1.trans f2).trans f3) ((g1.trans g2).trans g3) ((n1.trans n2 g1).trans n3 (g1.trans g2)) r3
theorem o_op {l : List D} (h1 : EvD K ta G a) (h2 : EvD K tb G b) (h3 : Op2O K r a b l) : EvO K (tOp r ta tb) G l := .mk fun {H0 F0 F H σ} E Q q =>
  h1 E _ fun v F1 H1 E1 f1 g1 n1 r1 => h2 E1 _ fun w F2 H2 E2 f2 g2 n2 r2 => h3 E2.ef (r1.mono f2) r2 Q fun p xs H3 g3 hp hp3 r3 =>
    q p xs F2 H3 (E2.grow (Ex.refl _) g3 (E2.ef.trans g3) (Nw.refl _ _)) (f1.trans f2) ((g1.trans g2).trans g3) (n1.trans n2 g1) (ex_none (g1.trans g2) hp) (ex_none E2.ef hp) hp3 r3
/-- a new list, shared -/
theorem e_share {l : List D} (h : EvO K te G l) : EvD K te G (.lst l) := .mk fun {H0 F0 F H σ} E Q q => h E Q fun p xs F1 H1 E1 f1 g1 n1 hp hf h1 r1 => by
  have ef : Ex F1 (upd F1 p (.lst xs)) := Ex.new hf
  have n2 : Nw F (upd F1 p (.lst xs)) H := nw_upd hp n1
  refine q (.ref p) (upd F1 p (.lst xs)) H1 (E.grow (f1.trans ef) g1 (fun z o y => ?_) n2) (f1.trans ef) g1 n2 (.lst upd_same (r1.mono ef))
  by_cases hz : z = p
  · subst hz
    rw [upd_same] at y
    cases y
    exact h1
  · rw [upd_ne hz] at y
    exact E1.ef z o y
theorem e_un {r : V → Hp → VK → Prop} (h1 : EvD K ta G a) (h3 : Op1 K r a c) : EvD K (tUn r ta) G c := .mk fun {H0 F0 F H σ} E Q q =>
  h1 E _ fun v F1 H1 E1 f1 g1 n1 r1 => h3 E1.ef r1 Q fun z F3 H3 f3 k3 g3 n3 r3 => q z F3 H3 (E1.grow f3 g3 k3 n3) (f1.trans f3) (g1.trans g3) (n1.trans n3 g1) r3
theorem s_nil : EvS K tNil G [] := .mk fun {H0 F0 F H σ} E Q q => q [] F H E (Ex.refl F) (Ex.refl H) (Nw.refl F H) .nil
theorem s_cons {tr : TA} {ds : List D} (h : EvD K ta G a) (hr : EvS K tr G ds) : EvS K (tCons ta tr) G (a :: ds) := .mk fun {H0 F0 F H σ} E Q q =>
  h E _ fun v F1 H1 E1 f1 g1 n1 r1 => hr E1 _ fun vs F2 H2 E2 f2 g2 n2 r2 => q (v :: vs) F2 H2 E2 (f1.trans f2) (g1.trans g2) (n1.trans n2 g1) (.cons (r1.mono f2) r2)
theorem e_tup {ta : TA} {ds : List D} (h : EvS K ta G ds) (hl : ds.length ≤ 100000) : EvD K (tTup ta) G (.tup ds) := .mk fun {H0 F0 F H σ} E Q q =>
  h E _ fun vs F1 H1 E1 f1 g1 n1 r1 => ⟨sz_of (by rw [r1.length]; exact hl), fun p hp => by
    have ef : Ex F1 (upd F1 p (.tup vs)) := Ex.new (ex_none E1.ef hp)
    have n2 : Nw F1 (upd F1 p (.tup vs)) H1 := nw_upd hp (Nw.refl _ _)
    exact q _ _ _ (E1.grow ef (Ex.new hp) (ex_upd_both E1.ef) n2) (f1.trans ef) (g1.trans (Ex.new hp)) (n1.trans n2 g1) (.tup upd_same (r1.mono ef))⟩
theorem o_lst {ta : TA} {ds : List D} (h : EvS K ta G ds) (hl : ds.length ≤ 100000) : EvO K (tLst ta) G ds := .mk fun {H0 F0 F H σ} E Q q =>
  h E _ fun vs F1 H1 E1 f1 g1 n1 r1 => ⟨sz_of (by rw [r1.length]; exact hl), fun p hp =>
    q p vs F1 _ (E1.grow (Ex.refl _) (Ex.new hp) (E1.ef.trans (Ex.new hp)) (Nw.refl _ _)) f1 (g1.trans (Ex.new hp)) n1 (ex_none g1 hp) (ex_none E1.ef hp) upd_same r1⟩
theorem e_cb {r : List V → Hp → VK → Prop} {ta : TA} {ds : List D} (h : EvS K ta G ds) (hr : OpN K r ds c) : EvD K (tCB r ta) G c := .mk fun {H0 F0 F H σ} E Q q =>
  h E _ fun vs F1 H1 E1 f1 g1 n1 r1 => hr E1.ef r1 Q fun z F3 H3 f3 k3 g3 n3 r3 => q z F3 H3 (E1.grow f3 g3 k3 n3) (f1.trans f3) (g1.trans g3) (n1.trans n3 g1) r3
theorem o_cb {r : List V → Hp → VK → Prop} {ta : TA} {ds l : List D} (h : EvS K ta G ds) (hr : OpNO K r ds l) : EvO K (tCB r ta) G l := .mk fun {H0 F0 F H σ} E Q q =>
  h E _ fun vs F1 H1 E1 f1 g1 n1 r1 => hr E1.ef r1 Q fun p xs H3 g3 hp hp3 r3 => q p xs F1 H3 (E1.grow (Ex.refl _) g3 (E1.ef.trans g3) (Nw.refl _ _)) f1 (g1.trans g3) n1 (ex_none g1 hp) (ex_none E1.ef hp) hp3 r3
/-! tests -/
theorem t_test {x : Bool} (h : EvD K te G (.bl x)) : EvTt K (tTest te) G x := .mk fun {H0 F0 F H σ} E Q q => h E _ fun v F1 H1 E1 f1 g1 n1 r1 => by
  cases r1
  exact ⟨x, rfl, q F1 H1 E1 f1 g1 n1⟩
theorem t_B {x : Bool} (h : EvD K te G (.bl x)) : EvTt K (tB te) G x := .mk fun {H0 F0 F H σ} E Q q => h E _ fun v F1 H1 E1 f1 g1 n1 r1 => by
  cases r1
  exact ⟨x, rfl, q F1 H1 E1 f1 g1 n1⟩
theorem t_and {x y : Bool} (h1 : EvTt K t G x) (h2 : x = true → EvTt K u G y) : EvTt K (tAnd t u) G (x && y) := .mk fun {H0 F0 F H σ} E Q q => h1 E _ fun F1 H1 E1 f1 g1 n1 => by
  cases x with
  | true =>
    show u σ H1 Q
    exact h2 rfl E1 Q fun F2 H2 E2 f2 g2 n2 => q F2 H2 E2 (f1.trans f2) (g1.trans g2) (n1.trans n2 g1)
  | false =>
    show Q false H1
    exact q F1 H1 E1 f1 g1 n1
theorem t_or {x y : Bool} (h1 : EvTt K t G x) (h2 : x = false → EvTt K u G y) : EvTt K (tOr t u) G (x || y) := .mk fun {H0 F0 F H σ} E Q q => h1 E _ fun F1 H1 E1 f1 g1 n1 => by
  cases x with
  | false =>
    show u σ H1 Q
    exact h2 rfl E1 Q fun F2 H2 E2 f2 g2 n2 => q F2 H2 E2 (f1.trans f2) (g1.trans g2) (n1.trans n2 g1)
  | true =>
    show Q true H1
    exact q F1 H1 E1 f1 g1 n1
theorem t_not {x : Bool} (h1 : EvTt K t G x) : EvTt K (tNot t) G (!x) := .mk fun {H0 F0 F H σ} E Q q => h1 E _ fun F1 H1 E1 f1 g1 n1 => q F1 H1 E1 f1 g1 n1
theorem t_yes : EvTt K tYes G true := .mk fun {H0 F0 F H σ} E Q q => q F H E (Ex.refl F) (Ex.refl H) (Nw.refl F H)
theorem e_andV {x y : Bool} (h1 : EvD K ta G (.bl x)) (h2 : x = true → EvD K tb G (.bl y)) : EvD K (tAndV ta tb) G (.bl (x && y)) := .mk fun {H0 F0 F H σ} E Q q => h1 E _ fun v F1 H1 E1 f1 g1 n1 r1 => by
  cases r1
  refine ⟨x, rfl, ?_⟩
  cases x with
  | true =>
    show tb σ H1 Q
    exact h2 rfl E1 Q fun w F2 H2 E2 f2 g2 n2 r2 => q w F2 H2 E2 (f1.trans f2) (g1.trans g2) (n1.trans n2 g1) r2
  | false =>
    show Q (.bl false) H1
    exact q _ F1 H1 E1 f1 g1 n1 (.bl _)
theorem e_orV {x y : Bool} (h1 : EvD K ta G (.bl x)) (h2 : x = false → EvD K tb G (.bl y)) : EvD K (tOrV ta tb) G (.bl (x || y)) := .mk fun {H0 F0 F H σ} E Q q => h1 E _ fun v F1 H1 E1 f1 g1 n1 r1 => by
  cases r1
  refine ⟨x, rfl, ?_⟩
  cases x with
  | false =>
    show tb σ H1 Q
    exact h2 rfl E1 Q fun w F2 H2 E2 f2 g2 n2 r2 => q w F2 H2 E2 (f1.trans f2) (g1.trans g2) (n1.trans n2 g1) r2
  | true =>
    show Q (.bl true) H1
    exact q _ F1 H1 E1 f1 g1 n1 (.bl _)
theorem e_notV {x : Bool} (h1 : EvD K ta G (.bl x)) : EvD K (tNotV ta) G (.bl (!x)) := .mk fun {H0 F0 F H σ} E Q q => h1 E _ fun v F1 H1 E1 f1 g1 n1 r1 => by
  cases r1
  exact ⟨x, rfl, q _ F1 H1 E1 f1 g1 n1 (.bl _)⟩
theorem e_if {x : Bool} (h : EvTt K t G x) (h1 : x = true → EvD K ta G d) (h2 : x = false → EvD K tb G d) : EvD K (tIf t ta tb) G d := .mk fun {H0 F0 F H σ} E Q q => h E _ fun F1 H1 E1 f1 g1 n1 => by
  cases x with
  | true =>
    show ta σ H1 Q
    exact h1 rfl E1 Q fun w F2 H2 E2 f2 g2 n2 r2 => q w F2 H2 E2 (f1.trans f2) (g1.trans g2) (n1.trans n2 g1) r2
  | false =>
    show tb σ H1 Q
    exact h2 rfl E1 Q fun w F2 H2 E2 f2 g2 n2 r2 => q w F2 H2 E2 (f1.trans f2) (g1.trans g2) (n1.trans n2 g1) r2
theorem e_ite {p : Prop} [Decidable p] {x : Bool} (h : EvTt K t G x) (hx : x = decide p) (h1 : p → EvD K ta G a) (h2 : ¬ p → EvD K tb G b) : EvD K (tIf t ta tb) G (if p then a else b) := by
  subst hx
  refine e_if h (fun q => ?_) (fun q => ?_)
  · rw [if_pos (of_decide_eq_true q)]
    exact h1 (of_decide_eq_true q)
  · rw [if_neg (of_decide_eq_false q)]
    exact h2 (of_decide_eq_false q)
/-- a chain of two comparisons -/
theorem e_chain {r r' : R2} {tc : TE} {x y : Bool} (h1 : EvD K ta G a) (h2 : EvD K tb G b) (h3 : Op2 K r a b (.bl x)) (h4 : x = true → EvD K tc G c) (h5 : x = true → Op2 K r' b c (.bl y)) : EvD K (tChain r r' ta tb tc) G (.bl (x && y)) := .mk fun {H0 F0 F H σ} E Q q =>
  h1 E _ fun v F1 H1 E1 f1 g1 n1 r1 => h2 E1 _ fun w F2 H2 E2 f2 g2 n2 r2 => h3 E2.ef (r1.mono f2) r2 _ fun z F3 H3 f3 k3 g3 n3 r3 => by
    cases r3
    refine ⟨x, rfl, ?_⟩
    have E3 := E2.grow f3 g3 k3 n3
    have N3 := ((n1.trans n2 g1).trans n3 (g1.trans g2))
    cases x with
    | true =>
      show tc σ H3 fun w' H4 => r' w w' H4 Q
      exact h4 rfl E3 _ fun w4 F4 H4 E4 f4 g4 n4 r4 => h5 rfl E4.ef (r2.mono (f3.trans f4)) r4 Q fun z5 F5 H5 f5 k5 g5 n5 r5 =>
        q z5 F5 H5 (E4.grow f5 g5 k5 n5) ((((f1.trans f2).trans f3).trans f4).trans f5) ((((g1.trans g2).trans g3).trans g4).trans g5) ((N3.trans n4 ((g1.trans g2).trans g3)).trans n5 (((g1.trans g2).trans g3).trans g4)) r5
    | false =>
      show Q (.bl false) H3
      exact q _ F3 H3 E3 ((f1.trans f2).trans f3) ((g1.trans g2).trans g3) N3 (.bl _)
theorem p_none : EvP K tNoPart G none := .mk fun {H0 F0 F H σ} E Q q => q F H E (Ex.refl F) (Ex.refl H) (Nw.refl F H)
theorem p_some {i : Int} (h : EvD K te G (.int i)) : EvP K (tPart te) G (some i) := .mk fun {H0 F0 F H σ} E Q q => h E _ fun v F1 H1 E1 f1 g1 n1 r1 => by
  cases r1
  exact ⟨i, rfl, q F1 H1 E1 f1 g1 n1⟩
/-- what is read of an owned list for a moment -/
theorem e_peek {i : Nat} {l : Ow} (h : G[i]? = some (.own l)) (hv : EvD K te (G.set i (.dat (datOf l))) d) (hd : ∀ {F F' : Hp} {v : V}, Rp K F v d → Rp K F' v d) : EvD K te G d := .mk fun {H0 F0 F H σ} E Q q => by
  obtain ⟨F1, f1, E1⟩ := E.freeze h
  refine hv E1 Q fun v F2 H2 E2 f2 g2 n2 r2 => q v F H2 ?_ (Ex.refl F) g2 (Nw.refl F H) (hd r2)
  exact E.grow (Ex.refl F) g2 (E.ef.trans g2) (Nw.refl F H)
theorem t_peek {i : Nat} {l : Ow} {x : Bool} (h : G[i]? = some (.own l)) (hv : EvTt K t (G.set i (.dat (datOf l))) x) : EvTt K t G x := .mk fun {H0 F0 F H σ} E Q q => by
  obtain ⟨F1, f1, E1⟩ := E.freeze h
  refine hv E1 Q fun F2 H2 E2 f2 g2 n2 => q F H2 ?_ (Ex.refl F) g2 (Nw.refl F H)
  exact E.grow (Ex.refl F) g2 (E.ef.trans g2) (Nw.refl F H)
end
theorem fix_int {K : PySem.W.Frag} {i : Int} {F F' : Hp} {v : V} (h : Rp K F v (.int i)) : Rp K F' v (.int i) := by
  cases h
  exact .int i
theorem fix_bl {K : PySem.W.Frag} {i : Bool} {F F' : Hp} {v : V} (h : Rp K F v (.bl i)) : Rp K F' v (.bl i) := by
  cases h
  exact .bl i
theorem fix_str {K : PySem.W.Frag} {i : Str} {F F' : Hp} {v : V} (h : Rp K F v (.str i)) : Rp K F' v (.str i) := by
  cases h
  exact .str i
theorem fix_non {K : PySem.W.Frag} {F F' : Hp} {v : V} (h : Rp K F v .non) : Rp K F' v .non := by
  cases h
  exact .non

/-! statements -/
inductive Out where
  | nx (G : List Sl)
  | rt (d : D)
  | ro (l : List D)
  | ro2 (l m : List D)
  | ex (C : Addr) (X : XK)
  | bk (G : List Sl)
  | ct (G : List Sl)
/-- what a return leaves -/
structure Ro (H0 F0 F' H' : Hp) : Prop where
  e0 : Ex H0 H'
  ef : Ex F' H'
  e1 : Ex F0 F'
  nf : ∀ a o, F' a = some o → F0 a = some o ∨ H0 a = none
theorem En.ro {K : PySem.W.Frag} {H0 F0 F H : Hp} {σ : L2.St} {G : List Sl} (E : En K H0 F0 F H σ G) : Ro H0 F0 F H := ⟨E.e0, E.ef, E.e1, E.nf⟩
def Post (K : PySem.W.Frag) (H0 F0 F : Hp) (o : Out) (E : Ends) : Prop := match o with
  | .nx G => ∀ σ F' H', En K H0 F0 F' H' σ G → Ex F F' → E.nx σ H'
  | .bk G => ∀ σ F' H', En K H0 F0 F' H' σ G → Ex F F' → E.bk σ H'
  | .ct G => ∀ σ F' H', En K H0 F0 F' H' σ G → Ex F F' → E.ct σ H'
  | .rt d => ∀ v F' H', Ro H0 F0 F' H' → Rp K F' v d → E.rt v H'
  | .ro l => ∀ p xs F' H', Ro H0 F0 F' H' → H0 p = none → F' p = none → H' p = some (.lst xs) → RpA K F' xs l → E.rt (.ref p) H'
  | .ro2 l m => ∀ t p xs q ys F' H', Ro H0 F0 F' H' → H' t = some (.tup [.ref p, .ref q]) → p ≠ q → H0 p = none → F' p = none → H' p = some (.lst xs) → RpA K F' xs l → H0 q = none → F' q = none → H' q = some (.lst ys) → RpA K F' ys m → E.rt (.ref t) H'
  | .ex C X => ∀ F' H', Ro H0 F0 F' H' → X (.ref C) none H'
structure StD (K : PySem.W.Frag) (t : TS) (G : List Sl) (o : Out) : Prop where
  run : ∀ {H0 F0 F H : Hp} {σ : L2.St} {E : Ends}, En K H0 F0 F H σ G → Post K H0 F0 F o E → t E σ H
instance {K : PySem.W.Frag} {t : TS} {G : List Sl} {o : Out} : CoeFun (StD K t G o) fun _ => ∀ {H0 F0 F H : Hp} {σ : L2.St} {E : Ends}, En K H0 F0 F H σ G → Post K H0 F0 F o E → t E σ H := ⟨fun h => h.run⟩
/-- assigning to a target -/
structure TgD (K : PySem.W.Frag) (g : TG) (G : List Sl) (d : D) (G' : List Sl) : Prop where
  run : ∀ {H0 F0 F H : Hp} {σ : L2.St} {v : V}, En K H0 F0 F H σ G → Rp K F v d → ∀ Q : L2.St → Hp → Prop, (∀ σ', En K H0 F0 F H σ' G' → Q σ' H) → g v σ H Q
instance {K : PySem.W.Frag} {g : TG} {G : List Sl} {d : D} {G' : List Sl} : CoeFun (TgD K g G d G') fun _ => ∀ {H0 F0 F H : Hp} {σ : L2.St} {v : V}, En K H0 F0 F H σ G → Rp K F v d → ∀ Q : L2.St → Hp → Prop, (∀ σ', En K H0 F0 F H σ' G' → Q σ' H) → g v σ H Q := ⟨fun h => h.run⟩
structure TgsD (K : PySem.W.Frag) (g : TGs) (G : List Sl) (ds : List D) (G' : List Sl) : Prop where
  run : ∀ {H0 F0 F H : Hp} {σ : L2.St} {vs : List V}, En K H0 F0 F H σ G → RpA K F vs ds → ∀ Q : L2.St → Hp → Prop, (∀ σ', En K H0 F0 F H σ' G' → Q σ' H) → g vs σ H Q
instance {K : PySem.W.Frag} {g : TGs} {G : List Sl} {ds : List D} {G' : List Sl} : CoeFun (TgsD K g G ds G') fun _ => ∀ {H0 F0 F H : Hp} {σ : L2.St} {vs : List V}, En K H0 F0 F H σ G → RpA K F vs ds → ∀ Q : L2.St → Hp → Prop, (∀ σ', En K H0 F0 F H σ' G' → Q σ' H) → g vs σ H Q := ⟨fun h => h.run⟩
section
variable {K : PySem.W.Frag} {G G1 G2 : List Sl} {ta tb te tx : TE} {t u : TT} {tu tw tz : TS} {a b c d : D} {o : Out} {g : TG} {gs : TGs}
theorem Post.weak {H0 F0 F F1 : Hp} {E : Ends} (h : Post K H0 F0 F o E) (f : Ex F F1) : Post K H0 F0 F1 o E := by
  cases o with
  | nx G => exact fun σ F' H' e x => h σ F' H' e (f.trans x)
  | bk G => exact fun σ F' H' e x => h σ F' H' e (f.trans x)
  | ct G => exact fun σ F' H' e x => h σ F' H' e (f.trans x)
  | rt d => exact h
  | ro l => exact h
  | ro2 l m => exact h
  | ex C X => exact h
theorem g_name {i : Nat} : TgD K (gName i) G d (G.set i (.dat d)) := .mk fun {H0 F0 F H σ v} E r Q q => q _ (E.setD r i)
theorem gs_nil : TgsD K gNil G [] G := .mk fun {H0 F0 F H σ vs} E r Q q => by
  cases r
  exact ⟨rfl, q σ E⟩
theorem gs_cons {ds : List D} (h1 : TgD K g G d G1) (h2 : TgsD K gs G1 ds G2) : TgsD K (gCons g gs) G (d :: ds) G2 := .mk fun {H0 F0 F H σ vs} E r Q q => by
  cases r with
  | cons r1 r2 => exact ⟨_, _, rfl, h1 E r1 _ fun σ1 E1 => h2 E1 r2 Q q⟩
theorem g_tup {ds : List D} {n : Nat} (h : TgsD K gs G ds G1) (hn : ds.length = n) : TgD K (gTup K n gs) G (.tup ds) G1 := .mk fun {H0 F0 F H σ v} E r Q q => by
  cases r with
  | tup ha rs => exact ⟨_, _, rfl, Or.inl (Or.inl (E.ef _ _ ha)), by rw [rs.length]; exact hn, h E rs Q q⟩
theorem st_asg (h : EvD K te G d) (hg : TgD K g G d G1) : StD K (tAsg te g) G (.nx G1) := .mk fun {H0 F0 F H σ E} En p => h En _ fun v F1 H1 E1 f1 g1 n1 r1 => hg E1 r1 _ fun σ2 E2 => p σ2 F1 H1 E2 f1
theorem st_asgO {i : Nat} {l : List D} (h : EvO K te G l) : StD K (tAsg te (gName i)) G (.nx (G.set i (.own (.lst l)))) := .mk fun {H0 F0 F H σ E} En p => h En _ fun q xs F1 H1 E1 f1 g1 n1 hq hf h1 r1 =>
  p _ F1 H1 (E1.setO hf (ex_none En.e0 hq) h1 (.lst r1) i fun j lj hj _ hs => by
    obtain ⟨p2, xs2, a2, b2, c2, d2, r2⟩ := En.own j lj hj
    rw [a2] at hs
    cases hs
    rw [hq] at d2
    cases d2) f1
theorem st_seq (h1 : StD K tu G (.nx G1)) (h2 : StD K tw G1 o) : StD K (tSeq tu tw) G o := .mk fun {H0 F0 F H σ E} En p => h1.run (E := { E with nx := tw E }) En fun σ1 F1 H1 E1 f1 => h2 E1 (p.weak f1)
theorem st_stop (h1 : StD K tu G o) (ho : ∀ G, o ≠ .nx G) : StD K (tSeq tu tw) G o := .mk fun {H0 F0 F H σ E} En p => h1.run (E := { E with nx := tw E }) En (by
  cases o with
  | nx G => exact absurd rfl (ho G)
  | bk G => exact p
  | ct G => exact p
  | rt d => exact p
  | ro l => exact p
  | ro2 l m => exact p
  | ex C X => exact p)
theorem st_next : StD K tNext G (.nx G) := .mk fun {H0 F0 F H σ E} En p => p σ F H En (Ex.refl F)
theorem st_ret (h : EvD K te G d) : StD K (tRet te) G (.rt d) := .mk fun {H0 F0 F H σ E} En p => h En _ fun v F1 H1 E1 f1 g1 n1 r1 => p v F1 H1 E1.ro r1
theorem st_retO {l : List D} (h : EvO K te G l) : StD K (tRet te) G (.ro l) := .mk fun {H0 F0 F H σ E} En p => h En _ fun q xs F1 H1 E1 f1 g1 n1 hq hf h1 r1 => p q xs F1 H1 E1.ro (ex_none En.e0 hq) hf h1 r1
theorem st_retV {i : Nat} {l : List D} (h : G[i]? = some (.own (.lst l))) : StD K (tRet (tVar i)) G (.ro l) := .mk fun {H0 F0 F H σ E} En p => by
  obtain ⟨q, o, a1, b1, c1, d1, r1⟩ := En.own i _ h
  cases r1 with
  | lst r1 => exact ⟨_, a1, p q _ F H En.ro c1 b1 d1 r1⟩
theorem st_brk : StD K tBreak G (.bk G) := .mk fun {H0 F0 F H σ E} En p => p σ F H En (Ex.refl F)
theorem st_cont : StD K tCont G (.ct G) := .mk fun {H0 F0 F H σ E} En p => p σ F H En (Ex.refl F)
theorem st_if {x : Bool} (h : EvTt K t G x) (h1 : x = true → StD K tu G o) (h2 : x = false → StD K tw G o) : StD K (tIfS t tu tw) G o := .mk fun {H0 F0 F H σ E} En p => h En _ fun F1 H1 E1 f1 g1 n1 => by
  cases x with
  | true =>
    show tu E σ H1
    exact h1 rfl E1 (p.weak f1)
  | false =>
    show tw E σ H1
    exact h2 rfl E1 (p.weak f1)
theorem st_drop (h : EvD K te G d) : StD K (tDrop te) G (.nx G) := .mk fun {H0 F0 F H σ E} En p => h En _ fun v F1 H1 E1 f1 g1 n1 r1 => p σ F1 H1 E1 f1
theorem st_freeze {i : Nat} {l : Ow} (h : G[i]? = some (.own l)) (hs : StD K tu (G.set i (.dat (datOf l))) o) : StD K tu G o := .mk fun {H0 F0 F H σ E} En p => by
  obtain ⟨F1, f1, E1⟩ := En.freeze h
  exact hs E1 (p.weak f1)
/-- forgetting a slot -/
theorem st_is {o' : Out} (h : StD K tu G o) (e : o = o') : StD K tu G o' := e ▸ h
theorem e_own {i : Nat} {l : List D} (h : G[i]? = some (.own (.lst l))) {H0 F0 F H : Hp} {σ : L2.St} (E : En K H0 F0 F H σ G) {Q : VK} (q : ∀ p xs, σ[i]? = some (some (.ref p)) → H p = some (.lst xs) → F p = none → RpA K F xs l → Q (.ref p) H) : tVar i σ H Q := by
  obtain ⟨p, o, a1, b1, c1, d1, r1⟩ := E.own i _ h
  cases r1 with
  | lst r1 => exact ⟨_, a1, q p _ a1 d1 b1 r1⟩
/-- xs.append(e) -/
theorem st_app {i : Nat} {l : List D} (h : G[i]? = some (.own (.lst l))) (he : EvD K te G d) (hz : l.length < 100000) : StD K (tDrop (tBM K "list" rAppend (tVar i) (tCons te tNil))) G (.nx (G.set i (.own (.lst (l ++ [d]))))) := .mk fun {H0 F0 F H σ E} En p =>
  by
  unfold tDrop tBM
  exact e_own h En fun q xs hq hH hF hr => ⟨Or.inl ⟨rfl, xs, sq_of hH⟩, he En _ fun v F1 H1 E1 f1 g1 n1 r1 => by
    refine ⟨q, xs, v, rfl, rfl, g1 _ _ hH, sz_lt (by rw [hr.length]; exact hz), ?_⟩
    exact p σ F1 _ (E1.mut h hq (.lst ((hr.mono f1).app (.cons r1 .nil)))) f1⟩
/-- xs[j] = e -/
theorem st_setI {i : Nat} {l : List D} {j : Nat} (h : G[i]? = some (.own (.lst l))) (he : EvD K te G d) (hi : EvD K tx G (.int (j : Int))) (hj : j < l.length) : StD K (tAsg te (gSub (tVar i) tx rSetL)) G (.nx (G.set i (.own (.lst (l.set j d))))) := .mk fun {H0 F0 F H σ E} En p =>
  he En _ fun v F1 H1 E1 f1 g1 n1 r1 => e_own h E1 fun q xs hq hH hF hr => hi E1 _ fun w F2 H2 E2 f2 g2 n2 r2 => by
    cases r2
    refine ⟨q, xs, (j : Int), j, rfl, rfl, g2 _ _ hH, ixN_nat (by rw [hr.length]; exact hj), ?_⟩
    exact p σ F2 _ (E2.mut h hq (.lst ((hr.mono f2).set (r1.mono f2) j))) (f1.trans f2)
end
end Cy

set_option Elab.async false
set_option linter.all false
set_option maxRecDepth 100000
set_option maxHeartbeats 2000000
namespace Cy
open PySem L2 Evl

/-! promises over data -/
/-- hands back a value that bears d -/
def spD (K : PySem.W.Frag) (R : List D → D → Prop) : Sp := fun vs H Q _ => ∃ F ds d, Ex F H ∧ RpA K F vs ds ∧ R ds d ∧ ∀ v F' H', Ro H F F' H' → Rp K F' v d → Q v H'
/-- hands back a new list -/
def spO (K : PySem.W.Frag) (R : List D → List D → Prop) : Sp := fun vs H Q _ => ∃ F ds l, Ex F H ∧ RpA K F vs ds ∧ R ds l ∧ ∀ p xs F' H', Ro H F F' H' → H p = none → F' p = none → H' p = some (.lst xs) → RpA K F' xs l → Q (.ref p) H'
section
variable {K : PySem.W.Frag} {G G1 G2 : List Sl} {ta : TA} {te tx : TE} {t u tt : TT} {tu tw tz : TS} {d : D} {ds l : List D} {o : Out} {g : TG}
theorem Ro.nw {H0 F0 F' H' : Hp} (r : Ro H0 F0 F' H') : Nw F0 F' H0 := r.nf
theorem e_call {R : List D → D → Prop} {E : XK} (h : EvS K ta G ds) (hR : R ds d) : EvD K (tCall (spD K R) [] E ta) G d := .mk fun {H0 F0 F H σ} En Q q =>
  h En _ fun vs F1 H1 E1 f1 g1 n1 r1 => by
    refine ⟨F1, ds, d, E1.ef, by rw [List.append_nil]; exact r1, hR, fun v F2 H2 ro r2 => ?_⟩
    exact q v F2 H2 (E1.grow ro.e1 ro.e0 ro.ef ro.nf) (f1.trans ro.e1) (g1.trans ro.e0) (n1.trans ro.nf g1) r2
theorem o_call {R : List D → List D → Prop} {E : XK} (h : EvS K ta G ds) (hR : R ds l) : EvO K (tCall (spO K R) [] E ta) G l := .mk fun {H0 F0 F H σ} En Q q =>
  h En _ fun vs F1 H1 E1 f1 g1 n1 r1 => by
    refine ⟨F1, ds, l, E1.ef, by rw [List.append_nil]; exact r1, hR, fun p xs F2 H2 ro hp hf hh r2 => ?_⟩
    exact q p xs F2 H2 (E1.grow ro.e1 ro.e0 ro.ef ro.nf) (f1.trans ro.e1) (g1.trans ro.e0) (n1.trans ro.nf g1) (ex_none g1 hp) hf hh r2
/-- the slots at a def's entry -/
def args (n : Nat) (ds : List D) : List Sl := ds.map Sl.dat ++ List.replicate (n - ds.length) Sl.no
theorem start_en {N : List Str} {vs : List V} {F H : Hp} (e : Ex F H) (r : RpA K F vs ds) (hn : ds.length ≤ N.length) : En K H F F H (start N vs) (args N.length ds) := by
  have hs : start N vs = vs.map some ++ List.replicate (N.length - vs.length) none := by
    first | rfl | (unfold start; rfl)
  have hl := r.length
  rw [hs, hl]
  unfold args
  refine ⟨fun i d h => ?_, fun i l h => ?_, fun i j li lj p hij h1 h2 h3 => ?_, Ex.refl H, e, Ex.refl F, fun a o h => .inl h, ?_⟩
  · by_cases hi : i < ds.length
    · rw [List.getElem?_append_left (by rw [List.length_map]; exact hi), List.getElem?_map] at h
      cases q : ds[i]? with
      | none =>
        rw [q] at h
        cases h
      | some e' =>
        rw [q] at h
        cases h
        obtain ⟨v, h1, h2⟩ := r.get q
        refine ⟨v, ?_, h2⟩
        rw [List.getElem?_append_left (by rw [List.length_map, hl]; exact hi), List.getElem?_map, h1]
        rfl
    · rw [List.getElem?_append_right (by rw [List.length_map]; omega), List.length_map] at h
      have := List.mem_of_getElem? h
      rw [List.mem_replicate] at this
      cases this.2
  · by_cases hi : i < ds.length
    · rw [List.getElem?_append_left (by rw [List.length_map]; exact hi), List.getElem?_map] at h
      cases q : ds[i]? with
      | none =>
        rw [q] at h
        cases h
      | some e' =>
        rw [q] at h
        cases h
    · rw [List.getElem?_append_right (by rw [List.length_map]; omega), List.length_map] at h
      have := List.mem_of_getElem? h
      rw [List.mem_replicate] at this
      cases this.2
  · by_cases hi : i < ds.length
    · rw [List.getElem?_append_left (by rw [List.length_map]; exact hi), List.getElem?_map] at h1
      cases q : ds[i]? with
      | none =>
        rw [q] at h1
        cases h1
      | some e' =>
        rw [q] at h1
        cases h1
    · rw [List.getElem?_append_right (by rw [List.length_map]; omega), List.length_map] at h1
      have := List.mem_of_getElem? h1
      rw [List.mem_replicate] at this
      cases this.2
  · rw [List.length_append, List.length_append, List.length_map, List.length_map, List.length_replicate, List.length_replicate, hl]
/-- a def's body, read from its arguments' data -/
theorem body_D {N : List Str} {R : List D → D → Prop} {vs : List V} {H : Hp} {Q : VK} {E : XK} {t : TS} (h : spD K R vs H Q E) (hn : ∀ ds d, R ds d → ds.length ≤ N.length)
    (hb : ∀ ds d, R ds d → StD K t (args N.length ds) (.rt d)) : t { nx := fun _ H' => Q .non H', rt := Q } (start N vs) H := by
  obtain ⟨F, ds, d, e, r, hR, q⟩ := h
  exact hb ds d hR (start_en e r (hn ds d hR)) fun v F' H' ro r' => q v F' H' ro r'
/-- .. that ends without a return -/
theorem body_N {N : List Str} {R : List D → D → Prop} {vs : List V} {H : Hp} {Q : VK} {E : XK} {t : TS} (h : spD K R vs H Q E) (hn : ∀ ds d, R ds d → ds.length ≤ N.length)
    (hb : ∀ ds d, R ds d → d = .non ∧ ∃ G, StD K t (args N.length ds) (.nx G)) : t { nx := fun _ H' => Q .non H', rt := Q } (start N vs) H := by
  obtain ⟨F, ds, d, e, r, hR, q⟩ := h
  obtain ⟨hd, G, hs⟩ := hb ds d hR
  subst hd
  exact hs (start_en e r (hn ds _ hR)) fun σ F' H' E' f' => q .non F' H' E'.ro .non
theorem body_O {N : List Str} {R : List D → List D → Prop} {vs : List V} {H : Hp} {Q : VK} {E : XK} {t : TS} (h : spO K R vs H Q E) (hn : ∀ ds d, R ds d → ds.length ≤ N.length)
    (hb : ∀ ds d, R ds d → StD K t (args N.length ds) (.ro d)) : t { nx := fun _ H' => Q .non H', rt := Q } (start N vs) H := by
  obtain ⟨F, ds, d, e, r, hR, q⟩ := h
  exact hb ds d hR (start_en e r (hn ds d hR)) fun p xs F' H' ro h0 hf hh r' => q p xs F' H' ro h0 hf hh r'

/-! walks -/
/-- the walk J gives these, one by one -/
structure WkD (K : PySem.W.Frag) (F : Hp) (J : It) (items : List D) : Prop where
  ex : ∃ Gp Y, Walk J items.length Gp Y ∧ (∀ H, Ex F H → Gp H) ∧ ∀ i H x H' F1, Ex F F1 → Ex F1 H → Y i H x H' → ∃ F2 d, Ex F1 F2 ∧ Ex H H' ∧ Ex F2 H' ∧ Nw F1 F2 H ∧ items[i]? = some d ∧ Rp K F2 x d
structure ItD (K : PySem.W.Frag) (wi : TI) (G : List Sl) (items : List D) : Prop where
  run : ∀ {H0 F0 F H : Hp} {σ : L2.St}, En K H0 F0 F H σ G → ∀ R : It → Hp → Prop, (∀ J F' H', En K H0 F0 F' H' σ G → Ex F F' → Ex H H' → Nw F F' H → WkD K F' J items → R J H') → wi σ H R
instance {K : PySem.W.Frag} {wi : TI} {G : List Sl} {items : List D} : CoeFun (ItD K wi G items) fun _ => ∀ {H0 F0 F H : Hp} {σ : L2.St}, En K H0 F0 F H σ G → ∀ R : It → Hp → Prop, (∀ J F' H', En K H0 F0 F' H' σ G → Ex F F' → Ex H H' → Nw F F' H → WkD K F' J items → R J H') → wi σ H R := ⟨fun h => h.run⟩
theorem wk_same {F : Hp} {J : It} {items : List D} {xs : List V} {Gp : Hp → Prop} {Y : Nat → Hp → V → Hp → Prop} (w : Walk J items.length Gp Y) (hg : ∀ H, Ex F H → Gp H) (r : RpA K F xs items) (hy : ∀ i H x H', Y i H x H' → H' = H ∧ xs[i]? = some x) : WkD K F J items := by
  refine ⟨Gp, Y, w, hg, fun i H x H' F1 e1 e2 y => ?_⟩
  obtain ⟨rfl, hx⟩ := hy i H x H' y
  have hi : i < items.length := by
    rw [← r.length]
    exact (List.getElem?_eq_some_iff.mp hx).1
  obtain ⟨v, h1, h2⟩ := r.get (List.getElem?_eq_getElem hi)
  rw [hx] at h1
  cases h1
  exact ⟨F1, items[i], Ex.refl _, Ex.refl _, e2, Nw.refl _ _, List.getElem?_eq_getElem hi, h2.mono e1⟩
theorem it_list (h : EvD K te G (.lst l)) : ItD K (iList K te) G l := .mk fun {H0 F0 F H σ} En R q => h En _ fun v F1 H1 E1 f1 g1 n1 r1 => by
  cases r1 with
  | lst ha rs =>
    refine ⟨_, rfl, ⟨_, sq_of (E1.ef _ _ ha)⟩, q _ F1 H1 E1 f1 g1 n1 ?_⟩
    refine wk_same (xs := _) (by rw [← rs.length]; exact walk_list) (fun H e => sq_of (e _ _ ha)) rs fun i H x H' y => y
theorem it_scr {ns : List Int} (h : EvD K te G (.scr ns)) : ItD K (iList K te) G (ns.map D.int) := .mk fun {H0 F0 F H σ} En R q => h En _ fun v F1 H1 E1 f1 g1 n1 r1 => by
  cases r1 with
  | scr hs =>
    refine ⟨_, rfl, ⟨_, ex_l E1.ef hs⟩, q _ F1 H1 E1 f1 g1 n1 ?_⟩
    have hl : (ns.map D.int).length = (ns.map V.int).length := by rw [List.length_map, List.length_map]
    exact wk_same (xs := ns.map V.int) (by rw [hl]; exact walk_list) (fun H e => ex_l e hs) (RpA.ofInts ns) fun i H x H' y => y
theorem it_tup (h : EvD K te G (.tup l)) : ItD K (iTup K te) G l := .mk fun {H0 F0 F H σ} En R q => h En _ fun v F1 H1 E1 f1 g1 n1 r1 => by
  cases r1 with
  | tup ha rs =>
    refine ⟨_, rfl, ⟨_, st_of (E1.ef _ _ ha)⟩, q _ F1 H1 E1 f1 g1 n1 ?_⟩
    refine wk_same (xs := _) (by rw [← rs.length]; exact walk_tup) (fun H e => st_of (e _ _ ha)) rs fun i H x H' y => y
theorem wk_fn {F : Hp} {J : It} {n : Nat} {f : Nat → Int} {Y : Nat → Hp → V → Hp → Prop} (w : Walk J n (fun _ => True) Y) (hy : ∀ i H x H', Y i H x H' → i < n ∧ H' = H ∧ x = .int (f i)) : WkD K F J ((List.range n).map fun i => D.int (f i)) := by
  have hl : ((List.range n).map fun i => D.int (f i)).length = n := by rw [List.length_map, List.length_range]
  refine ⟨_, Y, by rw [hl]; exact w, fun _ _ => trivial, fun i H x H' F1 e1 e2 y => ?_⟩
  obtain ⟨hi, rfl, rfl⟩ := hy i H x H' y
  refine ⟨F1, .int (f i), Ex.refl _, Ex.refl _, e2, Nw.refl _ _, ?_, .int _⟩
  rw [List.getElem?_map, List.getElem?_range hi]
  rfl
/-- ints lo, lo + 1, .. -/
def rngD (lo : Int) (n : Nat) : List D := (List.range n).map fun (i : Nat) => D.int (lo + (i : Int))
theorem walk_rng {lo : Int} {n : Nat} {F : Hp} : WkD K F (Itr lo n) (rngD lo n) :=
  wk_fn (f := fun (i : Nat) => lo + (i : Int)) (w := (⟨fun _ _ hi _ => hi, fun _ _ => Nat.le_refl _, fun i H x H' hi _ y => ⟨hi, y.1, y.2⟩⟩ : Walk (Itr lo n) n (fun _ => True) fun i H x H' => i < n ∧ H' = H ∧ x = .int (lo + (i : Int)))) fun i H x H' y => y
theorem it_rng1 {n : Int} (h : EvS K ta G [.int n]) (hn : -(2 ^ 62) ≤ n ∧ n < 2 ^ 62) : ItD K (iRng1 ta) G (rngD 0 n.toNat) := .mk fun {H0 F0 F H σ} En R q => h En _ fun vs F1 H1 E1 f1 g1 n1 r1 => by
  cases r1 with
  | cons a b =>
    cases b
    cases a
    exact ⟨n, rfl, hn.1, hn.2, q _ F1 H1 E1 f1 g1 n1 walk_rng⟩
theorem it_rng2 {lo n : Int} (h : EvS K ta G [.int lo, .int n]) (hn : -(2 ^ 62) ≤ lo ∧ lo < 2 ^ 62 ∧ -(2 ^ 62) ≤ n ∧ n < 2 ^ 62) : ItD K (iRng2 ta) G (rngD lo (n - lo).toNat) := .mk fun {H0 F0 F H σ} En R q => h En _ fun vs F1 H1 E1 f1 g1 n1 r1 => by
  cases r1 with
  | cons a b =>
    cases b with
    | cons b c =>
      cases c
      cases a
      cases b
      exact ⟨lo, n, rfl, hn, q _ F1 H1 E1 f1 g1 n1 walk_rng⟩
/-- the signs of a text -/
def signs (x : Str) : List D := x.cps.toList.map fun c => D.str ⟨#[c]⟩
theorem it_str {x : Str} (h : EvD K te G (.str x)) : ItD K (iStr te) G (signs x) := .mk fun {H0 F0 F H σ} En R q => h En _ fun v F1 H1 E1 f1 g1 n1 r1 => by
  cases r1
  refine ⟨x, rfl, q _ F1 H1 E1 f1 g1 n1 ?_⟩
  have hl : (signs x).length = x.cps.size := by
    unfold signs
    rw [List.length_map]
    rfl
  refine ⟨_, _, by rw [hl]; exact walk_str, fun _ _ => trivial, fun i H x' H' F1 e1 e2 y => ?_⟩
  obtain ⟨rfl, c, hc, rfl⟩ := y
  refine ⟨F1, _, Ex.refl _, Ex.refl _, e2, Nw.refl _ _, ?_, .str _⟩
  unfold signs
  rw [List.getElem?_map, Array.getElem?_toList, hc]
  rfl
/-- pairs of a place and an item -/
def enumD (l : List D) : List D := (List.range l.length).map fun (i : Nat) => D.tup [.int (i : Int), l.getD i .non]
theorem it_enum (h : EvS K ta G [.lst l]) : ItD K (iEnum K ta) G (enumD l) := .mk fun {H0 F0 F H σ} En R q => h En _ fun vs F1 H1 E1 f1 g1 n1 r1 => by
  cases r1 with
  | cons a b =>
    cases b
    cases a with
    | lst ha rs =>
      refine ⟨_, _, rfl, sq_of (E1.ef _ _ ha), q _ F1 H1 E1 f1 g1 n1 ?_⟩
      have hl : (enumD l).length = l.length := by
        unfold enumD
        rw [List.length_map, List.length_range]
      refine ⟨_, _, by rw [hl, ← rs.length]; exact walk_enum, fun H e => sq_of (e _ _ ha), fun i H x' H' F1 e1 e2 y => ?_⟩
      obtain ⟨T, x, y, rfl, hT, rfl, hx, hy⟩ := y
      cases hx
      dsimp only at hy
      have hi : i < l.length := by
        rw [← rs.length]
        exact (List.getElem?_eq_some_iff.mp hy).1
      obtain ⟨v, h1, h2⟩ := rs.get (List.getElem?_eq_getElem hi)
      rw [hy] at h1
      cases h1
      have ef : Ex F1 (upd F1 T (.tup [.int (i : Int), y])) := Ex.new (ex_none e2 hT)
      refine ⟨upd F1 T (.tup [.int (i : Int), y]), .tup [.int (i : Int), l[i]], ef, Ex.new hT, ex_upd_both e2, nw_upd hT (Nw.refl _ _), ?_, .tup upd_same (.cons (.int _) (.cons (h2.mono (e1.trans ef)) .nil))⟩
      unfold enumD
      rw [List.getElem?_map, List.getElem?_range hi]
      show some (D.tup [.int (i : Int), l.getD i .non]) = _
      rw [List.getD_eq_getElem?_getD, List.getElem?_eq_getElem hi]
      rfl
/-- pairs of two lists -/
def zipD (l m : List D) : List D := (List.range (min l.length m.length)).map fun i => D.tup [l.getD i .non, m.getD i .non]
theorem it_zip {m : List D} (h : EvS K ta G [.lst l, .lst m]) : ItD K (iZip K ta) G (zipD l m) := .mk fun {H0 F0 F H σ} En R q => h En _ fun vs F1 H1 E1 f1 g1 n1 r1 => by
  cases r1 with
  | cons a b =>
    cases b with
    | cons b c =>
      cases c
      cases a with
      | lst ha rs =>
        cases b with
        | lst hb rt =>
          refine ⟨_, _, _, _, rfl, sq_of (E1.ef _ _ ha), sq_of (E1.ef _ _ hb), q _ F1 H1 E1 f1 g1 n1 ?_⟩
          have hl : (zipD l m).length = min l.length m.length := by
            unfold zipD
            rw [List.length_map, List.length_range]
          refine ⟨_, _, walk_zip (by rw [hl, rs.length, rt.length]), fun H e => ⟨sq_of (e _ _ ha), sq_of (e _ _ hb)⟩, fun i H x' H' F1 e1 e2 y => ?_⟩
          obtain ⟨T, x, y, rfl, hT, rfl, hx, hy⟩ := y
          dsimp only at hx hy
          have hi : i < l.length := by
            rw [← rs.length]
            exact (List.getElem?_eq_some_iff.mp hx).1
          have hj : i < m.length := by
            rw [← rt.length]
            exact (List.getElem?_eq_some_iff.mp hy).1
          obtain ⟨v, h1, h2⟩ := rs.get (List.getElem?_eq_getElem hi)
          rw [hx] at h1
          cases h1
          obtain ⟨w, h3, h4⟩ := rt.get (List.getElem?_eq_getElem hj)
          rw [hy] at h3
          cases h3
          have ef : Ex F1 (upd F1 T (.tup [x, y])) := Ex.new (ex_none e2 hT)
          refine ⟨upd F1 T (.tup [x, y]), .tup [l[i], m[i]], ef, Ex.new hT, ex_upd_both e2, nw_upd hT (Nw.refl _ _), ?_, .tup upd_same (.cons (h2.mono (e1.trans ef)) (.cons (h4.mono (e1.trans ef)) .nil))⟩
          unfold zipD
          rw [List.getElem?_map, List.getElem?_range (by omega)]
          show some (D.tup [l.getD i .non, m.getD i .non]) = _
          rw [List.getD_eq_getElem?_getD, List.getElem?_eq_getElem hi, List.getD_eq_getElem?_getD, List.getElem?_eq_getElem hj]
          rfl
/-- ints from above: lo + n - 1, .., lo -/
def downD (lo : Int) (n : Nat) : List D := (List.range n).map fun (i : Nat) => D.int (lo + (n : Int) - 1 - (i : Int))
/-- a range as a value -/
structure RgD (K : PySem.W.Frag) (tr : L2.St → Hp → (Int → Int → Hp → Prop) → Prop) (G : List Sl) (a b : Int) : Prop where
  run : ∀ {H0 F0 F H : Hp} {σ : L2.St}, En K H0 F0 F H σ G → ∀ Q : Int → Int → Hp → Prop, (∀ F' H', En K H0 F0 F' H' σ G → Ex F F' → Ex H H' → Nw F F' H → Q a b H') → tr σ H Q
instance {K : PySem.W.Frag} {tr : L2.St → Hp → (Int → Int → Hp → Prop) → Prop} {G : List Sl} {a b : Int} : CoeFun (RgD K tr G a b) fun _ => ∀ {H0 F0 F H : Hp} {σ : L2.St}, En K H0 F0 F H σ G → ∀ Q : Int → Int → Hp → Prop, (∀ F' H', En K H0 F0 F' H' σ G → Ex F F' → Ex H H' → Nw F F' H → Q a b H') → tr σ H Q := ⟨fun h => h.run⟩
theorem it_revR {tr : L2.St → Hp → (Int → Int → Hp → Prop) → Prop} {a b : Int} (h : RgD K tr G a b) (hn : -(2 ^ 62) ≤ a ∧ a < 2 ^ 62 ∧ -(2 ^ 62) ≤ b ∧ b < 2 ^ 62) : ItD K (iRevR tr) G (downD a (b - a).toNat) := .mk fun {H0 F0 F H σ} En R q =>
  h En _ fun F1 H1 E1 f1 g1 n1 => ⟨hn.1, hn.2.1, hn.2.2.1, hn.2.2.2, q _ F1 H1 E1 f1 g1 n1 (by
    refine wk_fn (f := fun (i : Nat) => a + (((b - a).toNat : Nat) : Int) - 1 - (i : Int)) (w := (⟨fun _ _ hi _ => hi, fun _ _ => Nat.le_refl _, fun i H x H' hi _ y => ⟨hi, y.1, ?_⟩⟩ : Walk (Itc (a + (((b - a).toNat : Nat) : Int) - 1) (-1) (b - a).toNat) (b - a).toNat (fun _ => True) fun i H x H' => i < (b - a).toNat ∧ H' = H ∧ x = .int (a + (((b - a).toNat : Nat) : Int) - 1 - (i : Int)))) fun i H x H' y => y
    rw [y.2]
    congr 1
    omega)⟩

/-! what is forgotten -/
inductive Wk : List Sl → List Sl → Prop
  | nil : Wk [] []
  | keep {a : Sl} {l m : List Sl} : Wk l m → Wk (a :: l) (a :: m)
  | drop {a : Sl} {l m : List Sl} : Wk l m → Wk (a :: l) (.no :: m)
theorem Wk.refl : ∀ l : List Sl, Wk l l
  | [] => .nil
  | _ :: l => .keep (Wk.refl l)
theorem Wk.get : ∀ {l m : List Sl} {i : Nat} {x : Sl}, Wk l m → m[i]? = some x → x = .no ∨ l[i]? = some x
  | _, _, i, x, .nil, h => by simp at h
  | _, _, 0, x, .keep _, h => .inr (by simpa using h)
  | _, _, 0, x, .drop _, h => .inl (by simp at h; exact h.symm)
  | _, _, i + 1, x, .keep w, h => by
    have := Wk.get (i := i) (x := x) w (by simpa using h)
    simpa using this
  | _, _, i + 1, x, .drop w, h => by
    have := Wk.get (i := i) (x := x) w (by simpa using h)
    simpa using this
theorem Wk.length : ∀ {l m : List Sl}, Wk l m → l.length = m.length
  | _, _, .nil => rfl
  | _, _, .keep w => by rw [List.length_cons, List.length_cons, Wk.length w]
  | _, _, .drop w => by rw [List.length_cons, List.length_cons, Wk.length w]
theorem En.weak {H0 F0 F H : Hp} {σ : L2.St} {G' : List Sl} (E : Cy.En K H0 F0 F H σ G) (w : Wk G G') : Cy.En K H0 F0 F H σ G' where
  dat := fun i d h => by
    rcases w.get h with z | z
    · cases z
    · exact E.dat i d z
  own := fun i d h => by
    rcases w.get h with z | z
    · cases z
    · exact E.own i d z
  dis := fun i j li lj p hij h1 h2 h3 => by
    rcases w.get h1 with z | z
    · cases z
    · rcases w.get h2 with y | y
      · cases y
      · exact E.dis i j li lj p hij z y h3
  e0 := E.e0
  ef := E.ef
  e1 := E.e1
  nf := E.nf
  len := by rw [E.len, w.length]
theorem st_weak (h : StD K tu G (.nx G1)) (w : Wk G1 G2) : StD K tu G (.nx G2) := .mk fun {H0 F0 F H σ E} En p => h En fun σ F' H' E' f => p σ F' H' (E'.weak w) f
theorem st_from (h : StD K tu G1 o) (w : Wk G G1) : StD K tu G o := .mk fun {H0 F0 F H σ E} En p => h (En.weak w) p

/-! loops -/
def Goes (s : Out) (C : List Sl) : Prop := ∃ C', (s = .nx C' ∨ s = .ct C') ∧ Wk C' C
def Ends' (s o : Out) : Prop := (∃ d, s = .rt d ∧ o = .rt d) ∨ (∃ l, s = .ro l ∧ o = .ro l) ∨ (∃ l m, s = .ro2 l m ∧ o = .ro2 l m) ∨ (∃ C X, s = .ex C X ∧ o = .ex C X) ∨ ∃ C, s = .bk C ∧ o = .nx C
theorem st_for {wi : TI} {items : List D} (hi : ItD K wi G items) (C : Nat → List Sl) (h0 : C 0 = G) (T : Nat → List Sl) (ht : ∀ i d, items[i]? = some d → TgD K g (C i) d (T i)) (S : Nat → Out)
    (hb : ∀ i, i < items.length → (∀ j, j < i → Goes (S j) (C (j + 1))) → StD K tu (T i) (S i)) (hS : ∀ i, i < items.length → Goes (S i) (C (i + 1)) ∨ Ends' (S i) o)
    (hd : (∀ i, i < items.length → Goes (S i) (C (i + 1))) → o = .nx (C items.length)) : StD K (tFor wi g tu) G o := by
  refine ⟨?_⟩
  intro H0 F0 F H σ E En p
  refine hi En _ fun J F1 H1 E1 f1 g1 n1 wk => ?_
  obtain ⟨Gp, Y, w, hg, hy⟩ := wk.ex
  refine for_it w (fun i σ H => ∃ F', Cy.En K H0 F0 F' H σ (C i) ∧ Ex F1 F' ∧ ∀ j, j < i → Goes (S j) (C (j + 1))) ⟨F1, by rw [h0]; exact E1, Ex.refl _, fun j hj => absurd hj (Nat.not_lt_zero _)⟩
    (fun i σ H _ ⟨F', E', e', _⟩ => hg H (e'.trans E'.ef)) ?_ ?_
  · rintro i x σ2 H2 H3 hlt ⟨F', E', e', hp⟩ y
    obtain ⟨F2, d, k1, k2, k3, k4, hd2, r2⟩ := hy i H2 x H3 F' e' E'.ef y
    have E3 : Cy.En K H0 F0 F2 H3 σ2 (C i) := E'.grow k1 k2 k3 k4
    refine ht i d hd2 E3 r2 _ fun σ4 E4 => ?_
    refine hb i hlt hp E4 ?_
    rcases hS i hlt with hs | hs
    · have hnext : ∀ (σ : L2.St) (F'' H'' : Hp), Cy.En K H0 F0 F'' H'' σ (C (i + 1)) → Ex F2 F'' → ∃ F', Cy.En K H0 F0 F' H'' σ (C (i + 1)) ∧ Ex F1 F' ∧ ∀ j, j < i + 1 → Goes (S j) (C (j + 1)) := fun σ F'' H'' E'' f'' =>
        ⟨F'', E'', (e'.trans k1).trans f'', fun j hj => by
          by_cases hji : j < i
          · exact hp j hji
          · have ej : j = i := by omega
            rw [ej]
            exact hs⟩
      obtain ⟨C', hs | hs, hw⟩ := hs
      · rw [hs]
        exact fun σ F'' H'' E'' f'' => hnext σ F'' H'' (E''.weak hw) f''
      · rw [hs]
        exact fun σ F'' H'' E'' f'' => hnext σ F'' H'' (E''.weak hw) f''
    · rcases hs with ⟨d', hs, ho⟩ | ⟨l', hs, ho⟩ | ⟨l', m', hs, ho⟩ | ⟨C', X', hs, ho⟩ | ⟨C', hs, ho⟩
      · rw [hs]
        rw [ho] at p
        exact p
      · rw [hs]
        rw [ho] at p
        exact p
      · rw [hs]
        rw [ho] at p
        exact p
      · rw [hs]
        rw [ho] at p
        exact p
      · rw [hs]
        rw [ho] at p
        exact fun σ F'' H'' E'' f'' => p σ F'' H'' E'' ((((f1.trans e').trans k1).trans f''))
  · rintro σ2 H2 ⟨F', E', e', hp⟩
    have ho := hd hp
    rw [ho] at p
    exact p σ2 F' H2 E' (f1.trans e')

/-! comprehensions -/
def wipeG (G : List Sl) : List Nat → List Sl
  | [] => G
  | v :: vs => (wipeG G vs).set v .no
theorem En.setN {H0 F0 F H : Hp} {σ : L2.St} (E : Cy.En K H0 F0 F H σ G) (i : Nat) : Cy.En K H0 F0 F H (σ.set i none) (G.set i .no) where
  dat := fun j e h => by
    by_cases q : i = j
    · subst q
      by_cases hl : i < G.length
      · rw [List.getElem?_set_self hl] at h
        cases h
      · rw [List.getElem?_eq_none (by rw [List.length_set]; omega)] at h
        cases h
    · rw [List.getElem?_set_ne q] at h ⊢
      exact E.dat j e h
  own := fun j l' h => by
    by_cases q : i = j
    · subst q
      by_cases hl : i < G.length
      · rw [List.getElem?_set_self hl] at h
        cases h
      · rw [List.getElem?_eq_none (by rw [List.length_set]; omega)] at h
        cases h
    · rw [List.getElem?_set_ne q] at h ⊢
      exact E.own j l' h
  dis := fun a b la lb p hab h1 h2 h3 => by
    have na : i ≠ a := fun q => by
      subst q
      by_cases hl : i < G.length
      · rw [List.getElem?_set_self hl] at h1
        cases h1
      · rw [List.getElem?_eq_none (by rw [List.length_set]; omega)] at h1
        cases h1
    have nb : i ≠ b := fun q => by
      subst q
      by_cases hl : i < G.length
      · rw [List.getElem?_set_self hl] at h2
        cases h2
      · rw [List.getElem?_eq_none (by rw [List.length_set]; omega)] at h2
        cases h2
    rw [List.getElem?_set_ne na] at h1 h3
    rw [List.getElem?_set_ne nb] at h2 ⊢
    exact E.dis a b la lb p hab h1 h2 h3
  e0 := E.e0
  ef := E.ef
  e1 := E.e1
  nf := E.nf
  len := by rw [List.length_set, List.length_set, E.len]
theorem En.wipe {H0 F0 F H : Hp} {σ : L2.St} (E : Cy.En K H0 F0 F H σ G) : ∀ vs : List Nat, Cy.En K H0 F0 F H (L2.wipe σ vs) (wipeG G vs)
  | [] => E
  | v :: vs => (En.wipe E vs).setN v
/-- a target stores into these slots alone -/
def Keeps (g : TG) (vs : List Nat) : Prop := ∀ (x : V) (σ : L2.St) (H : Hp) (Q : L2.St → Hp → Prop), g x (L2.wipe σ vs) H Q → g x (L2.wipe σ vs) H fun σ2 H2 => L2.wipe σ2 vs = L2.wipe σ vs ∧ Q σ2 H2
theorem keeps1 {j : Nat} : Keeps (gName j) [j] := fun x σ H Q h => ⟨by show ((σ.set j none).set j (some x)).set j none = σ.set j none; rw [List.set_set, List.set_set], h⟩
theorem keeps2 {n i j : Nat} (hij : i ≠ j) : Keeps (gTup K n (gCons (gName i) (gCons (gName j) gNil))) [i, j] := fun x σ H Q h => by
  obtain ⟨a, xs, rfl, hs, hl, v, r, rfl, w, r', rfl, hr, q⟩ := h
  refine ⟨a, _, rfl, hs, hl, v, _, rfl, w, _, rfl, hr, ?_, q⟩
  show (((((σ.set j none).set i none).set i (some v)).set j (some w)).set j none).set i none = (σ.set j none).set i none
  rw [List.set_set, List.set_set, List.set_comm _ _ hij.symm, List.set_set, List.set_comm _ _ hij, List.set_set]
/-- which turns give, and what -/
def lcD (n : Nat) (f : Nat → Bool) (v : Nat → D) : List D := ((List.range n).filter f).map v
theorem lcD_yes {n : Nat} {f : Nat → Bool} {v : Nat → D} (h : f n = true) : lcD (n + 1) f v = lcD n f v ++ [v n] := by
  unfold lcD
  rw [List.range_succ, List.filter_append, List.map_append, List.filter_cons, if_pos h] <;> rfl
theorem lcD_no {n : Nat} {f : Nat → Bool} {v : Nat → D} (h : f n = false) : lcD (n + 1) f v = lcD n f v := by
  unfold lcD
  rw [List.range_succ, List.filter_append, List.map_append, List.filter_cons, if_neg (by rw [h]; decide)]
  show _ ++ [] = _
  rw [List.append_nil]
theorem lcD_len (n : Nat) (f : Nat → Bool) (v : Nat → D) : (lcD n f v).length ≤ n := by
  unfold lcD
  rw [List.length_map]
  have h := List.length_filter_le f (List.range n)
  rw [List.length_range] at h
  exact h
theorem o_lc {wi : TI} {items : List D} {vs : List Nat} (f : Nat → Bool) (v : Nat → D) (T : Nat → List Sl) (hk : Keeps g vs) (hi : ItD K wi G items) (hz : items.length ≤ 40000)
    (ht : ∀ i d, items[i]? = some d → TgD K g (wipeG G vs) d (T i)) (hf : ∀ i, i < items.length → EvTt K tt (T i) (f i)) (hv : ∀ i, i < items.length → f i = true → EvD K te (T i) (v i)) :
    EvO K (tLc wi g tt te vs) G (lcD items.length f v) := by
  refine ⟨?_⟩
  intro H0 F0 F H σ E Q q
  refine hi E _ fun J F1 H1 E1 f1 g1 n1 wk => ?_
  obtain ⟨Gp, Y, w, hg, hy⟩ := wk.ex
  intro Dl hD
  refine lc_it w (fun i H' => ∃ F' acc, Cy.En K H0 F0 F' H' σ G ∧ Ex F1 F' ∧ Ex H1 H' ∧ Nw F1 F' H1 ∧ F' Dl = none ∧ H' Dl = some (.lst acc) ∧ RpA K F' acc (lcD i f v)) ?_ (fun i H' _ ⟨F', acc, E', e', _⟩ => hg H' (e'.trans E'.ef)) ?_ ?_
  · exact ⟨F1, [], E1.grow (Ex.refl _) (Ex.new hD) (E1.ef.trans (Ex.new hD)) (Nw.refl _ _), Ex.refl _, Ex.new hD, Nw.refl _ _, ex_none E1.ef hD, upd_same, .nil⟩
  · rintro i x H2 H3 hlt ⟨F', acc, E', e', gg, nn, hF, hH, hr⟩ y
    obtain ⟨F2, d, k1, k2, k3, k4, hd2, r2⟩ := hy i H2 x H3 F' e' E'.ef y
    have E3 : Cy.En K H0 F0 F2 H3 σ G := E'.grow k1 k2 k3 k4
    refine hk x σ H3 _ ?_
    refine ht i d hd2 (E3.wipe vs) r2 _ fun σ4 E4 => ?_
    have nD : Dl ≠ Dl ∨ True := .inr trivial
    have hH3 : H3 Dl = some (.lst acc) := k2 _ _ hH
    have hF2 : F2 Dl = none := by
      cases z : F2 Dl with
      | none => rfl
      | some o =>
        rcases k4 Dl o z with y | y
        · rw [hF] at y
          cases y
        · rw [hH] at y
          cases y
    have n2 : Nw F1 F2 H1 := nn.trans k4 gg
    refine hf i hlt E4 _ fun F5 H5 E5 f5 g5 n5 => ?_
    have hF5 : F5 Dl = none := by
      cases z : F5 Dl with
      | none => rfl
      | some o =>
        rcases n5 Dl o z with y | y
        · rw [hF2] at y
          cases y
        · rw [hH3] at y
          cases y
    have E5' : Cy.En K H0 F0 F5 H5 σ G := E3.grow f5 g5 E5.ef n5
    have n5' : Nw F1 F5 H1 := n2.trans n5 (gg.trans k2)
    cases hfi : f i with
    | true =>
      show te σ4 H5 _
      refine hv i hlt hfi E5 _ fun v6 F6 H6 E6 f6 g6 n6 r6 => ?_
      have hH6 : H6 Dl = some (.lst acc) := g6 _ _ (g5 _ _ hH3)
      have hF6 : F6 Dl = none := by
        cases z : F6 Dl with
        | none => rfl
        | some o =>
          rcases n6 Dl o z with y | y
          · rw [hF5] at y
            cases y
          · rw [g5 _ _ hH3] at y
            cases y
      have hlen : acc.length ≤ i := by
        rw [hr.length]
        exact lcD_len i f v
      have n6' : Nw F1 F6 H1 := n5'.trans n6 ((gg.trans k2).trans g5)
      refine ⟨acc, hH6, sz_lt (by omega), F6, acc ++ [v6], ?_, ((e'.trans k1).trans f5).trans f6, ?_, n6', hF6, upd_same, ?_⟩
      · have E6' : Cy.En K H0 F0 F6 H6 σ G := E5'.grow f6 g6 E6.ef n6
        refine ⟨E6'.dat, fun j l h => ?_, E6'.dis, fun a o h => ?_, fun a o h => ?_, E6'.e1, E6'.nf, E6'.len⟩
        · obtain ⟨p, xs, a1, b1, c1, d1, r1⟩ := E1.own j l h
          obtain ⟨p2, xs2, a2, b2, c2, d2, r2⟩ := E6'.own j l h
          rw [a1] at a2
          cases a2
          have hne : p ≠ Dl := ne_of_none d1 hD
          exact ⟨p, xs2, a1, b2, c2, by rw [upd_ne hne]; exact d2, r2⟩
        · have hne : a ≠ Dl := fun z => by
            subst z
            rw [ex_none E1.e0 hD] at h
            cases h
          rw [upd_ne hne]
          exact E6'.e0 a o h
        · have hne : a ≠ Dl := fun z => by
            subst z
            rw [hF6] at h
            cases h
          rw [upd_ne hne]
          exact E6'.ef a o h
      · exact Ex.mut (((gg.trans k2).trans g5).trans g6) hD
      · rw [lcD_yes hfi]
        exact (hr.mono ((k1.trans f5).trans f6)).app (.cons r6 .nil)
    | false =>
      refine ⟨F5, acc, E5', (e'.trans k1).trans f5, (gg.trans k2).trans g5, n5', hF5, g5 _ _ hH3, ?_⟩
      rw [lcD_no hfi]
      exact hr.mono (k1.trans f5)
  · rintro H2 ⟨F', acc, E', e', gg, nn, hF, hH, hr⟩
    exact q Dl acc F' H2 E' (f1.trans e') (g1.trans gg) (n1.trans nn g1) (ex_none g1 hD) hF hH hr
end
end Cy
namespace Cy
open PySem L2 Evl
theorem spD_len {K : PySem.W.Frag} {R : List D → D → Prop} {vs : List V} {H : Hp} {Q : VK} {E : XK} {n : Nat} (hR : ∀ ds d, R ds d → ds.length = n) (h : spD K R vs H Q E) : vs.length = n := by
  obtain ⟨F, ds, d, e, r, h1, _⟩ := h
  rw [r.length]
  exact hR ds d h1
theorem spO_len {K : PySem.W.Frag} {R : List D → List D → Prop} {vs : List V} {H : Hp} {Q : VK} {E : XK} {n : Nat} (hR : ∀ ds d, R ds d → ds.length = n) (h : spO K R vs H Q E) : vs.length = n := by
  obtain ⟨F, ds, d, e, r, h1, _⟩ := h
  rw [r.length]
  exact hR ds d h1
/-- the law's end -/
theorem law_endD {K : PySem.W.Frag} {R : List D → D → Prop} {H : Hp} {a : Addr} {ns : List Int} (hS : SqL K H a (ns.map V.int)) (hR : R [.scr ns] (.bl true)) : spD K R [.ref a] H (fun v _ => v = .bl true) fun _ _ _ => False :=
  ⟨H, [.scr ns], .bl true, Ex.refl H, .cons (.scr hS) .nil, hR, fun v F' H' ro r => by
    cases r
    rfl⟩
end Cy

set_option Elab.async false
set_option linter.all false
set_option maxRecDepth 100000
set_option maxHeartbeats 2000000
namespace Cy
open PySem L2 Evl

/-! operators, whatever they are of -/
def orR (r r' : R2) : R2 := fun x y H Q => r x y H Q ∨ r' x y H Q
def orC (r r' : List V → Hp → VK → Prop) : List V → Hp → VK → Prop := fun xs H Q => r xs H Q ∨ r' xs H Q
def rAddS : R2 := fun x y H Q => ∃ i j, x = .str i ∧ y = .str j ∧ i.length + j.length ≤ sizeLine ∧ Q (.str (i ++ j)) H
def rLtS : R2 := fun x y H Q => ∃ i j, x = .str i ∧ y = .str j ∧ Q (.bl (decide (i.cps.toList < j.cps.toList))) H
def rLeS : R2 := fun x y H Q => ∃ i j, x = .str i ∧ y = .str j ∧ Q (.bl (!decide (j.cps.toList < i.cps.toList))) H
def rInC : R2 := fun x y H Q => ∃ (c : Nat) (z : Str), x = .str ⟨#[c]⟩ ∧ y = .str z ∧ Q (.bl (decide (c ∈ z.cps.toList))) H
def rNiC : R2 := fun x y H Q => ∃ (c : Nat) (z : Str), x = .str ⟨#[c]⟩ ∧ y = .str z ∧ Q (.bl (!decide (c ∈ z.cps.toList))) H
def rIsNn : R2 := fun x y H Q => y = .non ∧ Q (.bl (decide (x = .non))) H
def rNiNn : R2 := fun x y H Q => y = .non ∧ Q (.bl (!decide (x = .non))) H
def gAdd (K : PySem.W.Frag) : R2 := orR (rI0 fun i j => .int (i + j)) (orR rAddS rCat)
def gSub : R2 := rI0 fun i j => .int (i - j)
def gMul : R2 := orR (rI CMul fun i j => .int (i * j)) rRep
def gFdv : R2 := rI CDivW fun i j => .int (i / j)
def gMod : R2 := rI (fun _ j => 0 < j) fun i j => .int (i % j)
def gPow : R2 := rI CPow fun i j => .int (i ^ j.toNat)
def gLt : R2 := orR (rI0 fun i j => .bl (decide (i < j))) rLtS
def gLe : R2 := orR (rI0 fun i j => .bl (decide (i ≤ j))) rLeS
def gGt : R2 := rI0 fun i j => .bl (decide (j < i))
def gGe : R2 := rI0 fun i j => .bl (decide (j ≤ i))
def gEq (K : PySem.W.Frag) : R2 := orR rEq (rEqD K)
/-- two lists of unlike lengths -/
def rNeLen (K : PySem.W.Frag) : R2 := fun x y H Q => ∃ a b xs ys, x = .ref a ∧ y = .ref b ∧ SqL K H a xs ∧ SqL K H b ys ∧ xs.length ≠ ys.length ∧ Q (.bl true) H
def gNe (K : PySem.W.Frag) : R2 := orR rNe (orR (rNeD K) (rNeLen K))
def gIn (K : PySem.W.Frag) : R2 := orR rInC (rIn K false)
def gNi (K : PySem.W.Frag) : R2 := orR rNiC (rIn K true)
def gIs : R2 := orR rIsNn rIsB
def gIn2 : R2 := orR rNiNn rNotB
def gIx (K : PySem.W.Frag) : R2 := rIx K
section
variable {X : Cx}
theorem op_gAdd : OpR X (binaryOp .Add) (gAdd X.K) := op_add.or (op_add_str.or op_cat)
theorem op_gSub : OpR X (binaryOp .Sub) gSub := op_sub
theorem op_gMul : OpR X (binaryOp .Mult) gMul := op_mul.or op_rep
theorem op_gFdv : OpR X (binaryOp .FloorDiv) gFdv := op_fdivW
theorem op_gMod : OpR X (binaryOp .Mod) gMod := op_mod
theorem op_gPow : OpR X (binaryOp .Pow) gPow := op_pow
theorem op_gLt : OpR X (compareOp .Lt) gLt := op_lt.or op_lt_str
theorem op_gLe : OpR X (compareOp .LtE) gLe := op_le.or op_le_str
theorem op_gGt : OpR X (compareOp .Gt) gGt := op_gt
theorem op_gGe : OpR X (compareOp .GtE) gGe := op_ge
theorem op_gEq (hu : X.A.units + 64 < cLine) : OpR X (compareOp .Eq) (gEq X.K) := op_eq.or (op_eqD hu)
theorem op_neLen (hu : X.A.units + 64 < cLine) : OpR X (compareOp .NotEq) (rNeLen X.K) := by
  intro pins s σ H x y v u Q I rx ry h
  obtain ⟨a, b, xs, ys, rfl, rfl, h1, h2, hne, q⟩ := h
  cases (show v = Value.ref a from rx)
  cases (show u = Value.ref b from ry)
  obtain ⟨us, r1, p1, _⟩ := I.list h1
  obtain ⟨ws, r2, p2, _⟩ := I.list h2
  have hsz : us.toArray.size ≠ ws.toArray.size := by
    rw [List.size_toArray, List.size_toArray, ← r1.length, ← r2.length]
    exact hne
  exact SeqAt.RcNeAt.lists_lengths p1.isList p2.isList (by simpa using hsz) (by omega) X.prog X.w _ _ ⟨.bl true, H, I, rfl, q⟩
theorem op_gNe (hu : X.A.units + 64 < cLine) : OpR X (compareOp .NotEq) (gNe X.K) := op_ne.or ((op_neD hu).or (op_neLen hu))
theorem op_gIn : OpR X (compareOp .In) (gIn X.K) := op_in_sign.or op_in_seq
theorem op_gNi : OpR X (compareOp .NotIn) (gNi X.K) := op_notIn_sign.or op_notIn_seq
theorem op_gIs : OpR X (compareOp .Is) gIs := op_isN.or op_isBl
theorem op_gIsn : OpR X (compareOp .IsNot) gIn2 := op_notN.or op_notBl
def rMax2 : List V → Hp → VK → Prop := fun xs H Q => ∃ i j, xs = [.int i, .int j] ∧ Q (.int (if j > i then j else i)) H
def rMin2 : List V → Hp → VK → Prop := fun xs H Q => ∃ i j, xs = [.int i, .int j] ∧ Q (.int (if j < i then j else i)) H
def rAbs : List V → Hp → VK → Prop := fun xs H Q => ∃ i, xs = [.int i] ∧ Q (.int (if i < 0 then -i else i)) H
def rLen (K : PySem.W.Frag) : List V → Hp → VK → Prop := fun xs H Q => ∃ x n, xs = [x] ∧ LenV K x H n ∧ Q (.int n) H
def rInt1 : List V → Hp → VK → Prop := fun xs H Q => (∃ i, xs = [.int i] ∧ Q (.int i) H) ∨ ∃ k, xs = [.bl k] ∧ Q (.int (if k then 1 else 0)) H
def rIntS : List V → Hp → VK → Prop := fun xs H Q => ∃ a n, xs = [.str a] ∧ PySem.intText? a = some n ∧ a.length ≤ 640 ∧ Q (.int n) H
def rStrI : List V → Hp → VK → Prop := fun xs H Q => ∃ i, xs = [.int i] ∧ i.natAbs.log2 < 1920 ∧ Q (.str (toString i)) H
def rStrS : List V → Hp → VK → Prop := fun xs H Q => ∃ a, xs = [.str a] ∧ Q (.str a) H
def rListOf (K : PySem.W.Frag) : List V → Hp → VK → Prop := fun xs H Q => ∃ p ys, xs = [.ref p] ∧ (SqL K H p ys ∨ SqT K H p ys) ∧ ∀ l, H l = none → Q (.ref l) (upd H l (.lst ys))
def rReprI : List V → Hp → VK → Prop := fun xs H Q => ∃ i, xs = [.int i] ∧ i.natAbs.log2 < 1920 ∧ Q (.str (toString i)) H
def rReprB : List V → Hp → VK → Prop := fun xs H Q => ∃ b : Bool, xs = [.bl b] ∧ Q (.str (if b then "True" else "False")) H
def rReprS : List V → Hp → VK → Prop := fun xs H Q => ∃ a, xs = [.str a] ∧ (reprText a).length ≤ sizeLine ∧ Q (.str (reprText a)) H
def rReprN : List V → Hp → VK → Prop := fun xs H Q => xs = [.non] ∧ Q (.str "None") H
def gMax (K : PySem.W.Frag) := orC rMax2 (rMax K)
def gMin (K : PySem.W.Frag) := orC rMin2 (rMin K)
def gInt := orC rInt1 rIntS
def gStr := orC rStrI rStrS
def gRepr := orC rReprI (orC rReprB (orC rReprN rReprS))
theorem call_gMax (hc : X.calm = true) : CallR X (.builtin "max") (gMax X.K) := (call_max2 hc).or (cr_max hc)
theorem call_gMin (hc : X.calm = true) : CallR X (.builtin "min") (gMin X.K) := (call_min2 hc).or (cr_min hc)
theorem call_gAbs : CallR X (.builtin "abs") rAbs := call_abs
theorem call_gLen : CallR X (.builtin "len") (rLen X.K) := call_len
theorem call_gInt : CallR X (.type "int") gInt := call_int1.or call_int_str
theorem call_gStr : CallR X (.type "str") gStr := call_str_int.or SkE.call_str_str
theorem call_gList : CallR X (.type "list") (rListOf X.K) := call_list_of
theorem call_reprB : CallR X (.builtin "repr") rReprB := by
  intro pins s σ H xs us Q I r h
  obtain ⟨i, rfl, q⟩ := h
  obtain ⟨u, rfl, rfl⟩ := vals1 r
  exact PySem.P.repr_of_bool ⟨.str _, H, I.tok _, ⟨_, rfl⟩, q⟩
theorem call_reprN : CallR X (.builtin "repr") rReprN := by
  intro pins s σ H xs us Q I r h
  obtain ⟨rfl, q⟩ := h
  obtain ⟨u, rfl, rfl⟩ := vals1 r
  exact PySem.P.repr_of_none ⟨.str _, H, I.tok _, ⟨_, rfl⟩, q⟩
theorem call_reprS : CallR X (.builtin "repr") rReprS := by
  intro pins s σ H xs us Q I r h
  obtain ⟨i, rfl, hz, q⟩ := h
  obtain ⟨u, rfl, t, rfl⟩ := vals1 r
  exact PySem.P.repr_of_str ⟨.str _, H, I.tok _, ⟨_, rfl⟩, q⟩ hz
theorem call_gRepr : CallR X (.builtin "repr") gRepr := SkE.call_repr_int.or (call_reprB.or (call_reprN.or call_reprS))
end
def gSl (K : PySem.W.Frag) : V → Option Int → Option Int → Hp → VK → Prop := fun x lo hi H Q => rSlL K x lo hi H Q ∨ rSlS x lo hi H Q
theorem sl_gSl {X : Cx} : SlR X (gSl X.K) := sl_list.or sl_str

/-! what they give of data -/
def kindD : D → String
  | .non => "NoneType"
  | .bl _ => "bool"
  | .int _ => "int"
  | .str _ => "str"
  | .lst _ => "list"
  | .tup _ => "tuple"
  | .dic _ => "dict"
  | .obj _ _ => "object"
  | .scr _ => "list"
  | .exc _ => "object"
def noObj : D → Bool
  | .obj _ _ => false
  | .exc _ => false
  | _ => true
section
variable {K : PySem.W.Frag} {G : List Sl} {ta tb te : TE} {d : D} {l m : List D}
theorem op2_v {r : R2} {a b c : D} (h : ∀ {F H : Hp} {x y : V}, Ex F H → Rp K F x a → Rp K F y b → ∃ z, Rp K F z c ∧ ∀ Q : VK, Q z H → r x y H Q) : Op2 K r a b c := .mk fun {F H x y} e r1 r2 Q q => by
  obtain ⟨z, h1, h2⟩ := h e r1 r2
  exact h2 Q (q z F H (Ex.refl F) e (Ex.refl H) (Nw.refl F H) h1)
theorem op1_v {r : List V → Hp → VK → Prop} {ds : List D} {c : D} (h : ∀ {F H : Hp} {vs : List V}, Ex F H → RpA K F vs ds → ∃ z, Rp K F z c ∧ ∀ Q : VK, Q z H → r vs H Q) : OpN K r ds c := .mk fun {F H vs} e r1 Q q => by
  obtain ⟨z, h1, h2⟩ := h e r1
  exact h2 Q (q z F H (Ex.refl F) e (Ex.refl H) (Nw.refl F H) h1)
theorem rp_int {F : Hp} {v : V} {i : Int} (h : Rp K F v (.int i)) : v = .int i := by
  cases h
  rfl
theorem rp_str {F : Hp} {v : V} {i : Str} (h : Rp K F v (.str i)) : v = .str i := by
  cases h
  rfl
theorem rp_bl {F : Hp} {v : V} {i : Bool} (h : Rp K F v (.bl i)) : v = .bl i := by
  cases h
  rfl
theorem rp_non {F : Hp} {v : V} (h : Rp K F v .non) : v = .non := by
  cases h
  rfl
theorem rpa1 {F : Hp} {vs : List V} {a : D} (h : RpA K F vs [a]) : ∃ v, vs = [v] ∧ Rp K F v a := by
  cases h with
  | cons r t =>
    cases t
    exact ⟨_, rfl, r⟩
theorem rpa2 {F : Hp} {vs : List V} {a b : D} (h : RpA K F vs [a, b]) : ∃ v w, vs = [v, w] ∧ Rp K F v a ∧ Rp K F w b := by
  cases h with
  | cons r t =>
    cases t with
    | cons r2 t =>
      cases t
      exact ⟨_, _, rfl, r, r2⟩
theorem d_ii {g : Int → Int → V} {c : Int → Int → D} (hg : ∀ F i j, Rp K F (g i j) (c i j)) (i j : Int) : Op2 K (rI0 g) (.int i) (.int j) (c i j) := op2_v fun {F H x y} e r1 r2 => ⟨g i j, hg F i j, fun Q q => ⟨i, j, rp_int r1, rp_int r2, q⟩⟩
theorem d_iiC {C : Int → Int → Prop} {g : Int → Int → V} {c : Int → Int → D} (hg : ∀ F i j, Rp K F (g i j) (c i j)) {i j : Int} (hc : C i j) : Op2 K (rI C g) (.int i) (.int j) (c i j) := op2_v fun {F H x y} e r1 r2 => ⟨g i j, hg F i j, fun Q q => ⟨i, j, rp_int r1, rp_int r2, hc, q⟩⟩
theorem op2_l {r r' : R2} {a b c : D} (h : Op2 K r a b c) : Op2 K (orR r r') a b c := .mk fun {F H x y} e r1 r2 Q q => Or.inl (h e r1 r2 Q q)
theorem op2_r {r r' : R2} {a b c : D} (h : Op2 K r' a b c) : Op2 K (orR r r') a b c := .mk fun {F H x y} e r1 r2 Q q => Or.inr (h e r1 r2 Q q)
theorem opn_l {r r' : List V → Hp → VK → Prop} {ds : List D} {c : D} (h : OpN K r ds c) : OpN K (orC r r') ds c := .mk fun {F H vs} e r1 Q q => Or.inl (h e r1 Q q)
theorem opn_r {r r' : List V → Hp → VK → Prop} {ds : List D} {c : D} (h : OpN K r' ds c) : OpN K (orC r r') ds c := .mk fun {F H vs} e r1 Q q => Or.inr (h e r1 Q q)
theorem d_addI {i j : Int} : Op2 K (gAdd K) (.int i) (.int j) (.int (i + j)) := op2_l (d_ii (c := fun i j => .int (i + j)) (fun _ _ _ => .int _) i j)
theorem d_subI {i j : Int} : Op2 K gSub (.int i) (.int j) (.int (i - j)) := d_ii (c := fun i j => .int (i - j)) (fun _ _ _ => .int _) i j
theorem d_mulI {i j : Int} (h : CMul i j) : Op2 K gMul (.int i) (.int j) (.int (i * j)) := op2_l (d_iiC (c := fun i j => .int (i * j)) (fun _ _ _ => .int _) h)
theorem d_fdv {i j : Int} (h : 0 < j) (h2 : j < 18446744073709551616) : Op2 K gFdv (.int i) (.int j) (.int (i / j)) := d_iiC (c := fun i j => .int (i / j)) (fun _ _ _ => .int _) (wide_div (b := 64) h (by omega) (by decide) (by decide))
theorem d_mod {i j : Int} (h : 0 < j) : Op2 K gMod (.int i) (.int j) (.int (i % j)) := d_iiC (C := fun _ j => 0 < j) (c := fun i j => .int (i % j)) (fun _ _ _ => .int _) (i := i) (j := j) h
theorem d_pow {i j : Int} (h : CPow i j) : Op2 K gPow (.int i) (.int j) (.int (i ^ j.toNat)) := d_iiC (c := fun i j => .int (i ^ j.toNat)) (fun _ _ _ => .int _) h
theorem d_pow9 : Op2 K gPow (.int 10) (.int 9) (.int 1000000000) := by
  have h := d_pow (K := K) (i := 10) (j := 9) ⟨by decide, by decide, by decide⟩
  exact h
theorem d_pow12 : Op2 K gPow (.int 10) (.int 12) (.int 1000000000000) := by
  have h := d_pow (K := K) (i := 10) (j := 12) ⟨by decide, by decide, by decide⟩
  exact h
theorem d_pow6 : Op2 K gPow (.int 10) (.int 6) (.int 1000000) := by
  have h := d_pow (K := K) (i := 10) (j := 6) ⟨by decide, by decide, by decide⟩
  exact h
theorem d_ltI {i j : Int} : Op2 K gLt (.int i) (.int j) (.bl (decide (i < j))) := op2_l (d_ii (c := fun i j => .bl (decide (i < j))) (fun _ _ _ => .bl _) i j)
theorem d_leI {i j : Int} : Op2 K gLe (.int i) (.int j) (.bl (decide (i ≤ j))) := op2_l (d_ii (c := fun i j => .bl (decide (i ≤ j))) (fun _ _ _ => .bl _) i j)
theorem d_gtI {i j : Int} : Op2 K gGt (.int i) (.int j) (.bl (decide (j < i))) := d_ii (c := fun i j => .bl (decide (j < i))) (fun _ _ _ => .bl _) i j
theorem d_geI {i j : Int} : Op2 K gGe (.int i) (.int j) (.bl (decide (j ≤ i))) := d_ii (c := fun i j => .bl (decide (j ≤ i))) (fun _ _ _ => .bl _) i j
theorem d_addS {i j : Str} (h : i.length + j.length ≤ 100000) : Op2 K (gAdd K) (.str i) (.str j) (.str (i ++ j)) := op2_r (op2_l (op2_v fun {F H x y} e r1 r2 => ⟨.str (i ++ j), .str _, fun Q q => ⟨i, j, rp_str r1, rp_str r2, sz_of h, q⟩⟩))
theorem d_leS {i j : Str} : Op2 K gLe (.str i) (.str j) (.bl (!decide (j.cps.toList < i.cps.toList))) := op2_r (op2_v fun {F H x y} e r1 r2 => ⟨.bl _, .bl _, fun Q q => ⟨i, j, rp_str r1, rp_str r2, q⟩⟩)
theorem d_ltS {i j : Str} : Op2 K gLt (.str i) (.str j) (.bl (decide (i.cps.toList < j.cps.toList))) := op2_r (op2_v fun {F H x y} e r1 r2 => ⟨.bl _, .bl _, fun Q q => ⟨i, j, rp_str r1, rp_str r2, q⟩⟩)
theorem d_inC {c : Nat} {z : Str} : Op2 K (gIn K) (.str ⟨#[c]⟩) (.str z) (.bl (decide (c ∈ z.cps.toList))) := op2_l (op2_v fun {F H x y} e r1 r2 => ⟨.bl _, .bl _, fun Q q => ⟨c, z, rp_str r1, rp_str r2, q⟩⟩)
theorem d_niC {c : Nat} {z : Str} : Op2 K (gNi K) (.str ⟨#[c]⟩) (.str z) (.bl (!decide (c ∈ z.cps.toList))) := op2_l (op2_v fun {F H x y} e r1 r2 => ⟨.bl _, .bl _, fun Q q => ⟨c, z, rp_str r1, rp_str r2, q⟩⟩)
theorem d_catL {a b : List D} (h : a.length + b.length ≤ 100000) : Op2O K (gAdd K) (.lst a) (.lst b) (a ++ b) := .mk fun {F H x y} e r1 r2 Q q => by
  cases r1 with
  | lst h1 s1 =>
    cases r2 with
    | lst h2 s2 => exact Or.inr (Or.inr ⟨_, _, _, _, rfl, rfl, e _ _ h1, e _ _ h2, sz_of (by rw [s1.length, s2.length]; exact h), fun p hp => q p _ _ (Ex.new hp) hp upd_same (s1.app s2)⟩)
/-! equality -/
mutual
def toP : D → PyData
  | .non => .none
  | .bl b => .bool b
  | .int i => .int i
  | .str s => .str s
  | .lst xs => .list (toPs xs)
  | .tup xs => .tuple (toPs xs)
  | .dic _ => .none
  | .obj _ _ => .none
  | .scr ns => .list (ns.map PyData.int)
  | .exc _ => .none
def toPs : List D → List PyData
  | [] => []
  | x :: xs => toP x :: toPs xs
end
mutual
def plain : D → Bool
  | .lst xs => plains xs
  | .tup xs => plains xs
  | .dic _ => false
  | .obj _ _ => false
  | .exc _ => false
  | _ => true
def plains : List D → Bool
  | [] => true
  | x :: xs => plain x && plains xs
end
theorem dp_ints {F : Hp} : ∀ ns : List Int, DpAll K F (ns.map V.int) (ns.map PyData.int)
  | [] => .nil
  | n :: ns => .cons (.int n) (dp_ints ns)
mutual
theorem rp_dp {F : Hp} : ∀ {v : V} {d : D}, Rp K F v d → plain d = true → Dp K F v (toP d)
  | _, _, .non, _ => by unfold toP; exact .non
  | _, _, .bl b, _ => by unfold toP; exact .bl b
  | _, _, .int i, _ => by unfold toP; exact .int i
  | _, _, .str x, _ => by unfold toP; exact .str x
  | _, .lst ds, .lst h r, p => by
    unfold toP
    exact .lst (sq_of h) (rpa_dp r (by unfold plain at p; exact p))
  | _, .tup ds, .tup h r, p => by
    unfold toP
    exact .tup (st_of h) (rpa_dp r (by unfold plain at p; exact p))
  | _, .dic _, .dic _ _ _, p => by unfold plain at p; cases p
  | _, .obj _ _, .obj _ _ _, p => by unfold plain at p; cases p
  | _, .exc _, .exc _, p => by unfold plain at p; cases p
  | _, .scr ns, .scr h, _ => by
    unfold toP
    exact .lst h (dp_ints ns)
theorem rpa_dp {F : Hp} : ∀ {vs : List V} {ds : List D}, RpA K F vs ds → plains ds = true → DpAll K F vs (toPs ds)
  | _, _, .nil, _ => by unfold toPs; exact .nil
  | _, d :: ds, .cons r t, p => by
    unfold plains at p
    rw [Bool.and_eq_true] at p
    unfold toPs
    exact .cons (rp_dp r p.1) (rpa_dp t p.2)
end
def eqD (a b : D) : Bool := PyData.eqv (toP a) (toP b)
def okEq (a : D) : Bool := plain a && SeqAt.shaped (toP a)
theorem d_eqD {a b : D} (ha : okEq a = true) (hb : okEq b = true) : Op2 K (gEq K) a b (.bl (eqD a b)) := op2_r (op2_v fun {F H x y} e r1 r2 => by
  unfold okEq at ha hb
  rw [Bool.and_eq_true] at ha hb
  exact ⟨.bl _, .bl _, fun Q q => ⟨toP a, toP b, rp_dp (r1.mono e) ha.1, rp_dp (r2.mono e) hb.1, ha.2, hb.2, q⟩⟩)
theorem sq_rp {F H : Hp} {v : V} {l : List D} (e : Ex F H) (r : Rp K F v (.lst l)) : ∃ a xs, v = .ref a ∧ SqL K H a xs ∧ xs.length = l.length := by
  cases r with
  | lst ha rs => exact ⟨_, _, rfl, sq_of (e _ _ ha), rs.length⟩
theorem d_neLen {a b : List D} (h : a.length ≠ b.length) : Op2 K (gNe K) (.lst a) (.lst b) (.bl true) := op2_r (op2_r (op2_v fun {F H x y} e r1 r2 => by
  obtain ⟨p, xs, rfl, s1, l1⟩ := sq_rp e r1
  obtain ⟨q', ys, rfl, s2, l2⟩ := sq_rp e r2
  exact ⟨.bl _, .bl _, fun Q q => ⟨p, q', xs, ys, rfl, rfl, s1, s2, by rw [l1, l2]; exact h, q⟩⟩))
theorem d_neD {a b : D} (ha : okEq a = true) (hb : okEq b = true) : Op2 K (gNe K) a b (.bl (!eqD a b)) := op2_r (op2_l (op2_v fun {F H x y} e r1 r2 => by
  unfold okEq at ha hb
  rw [Bool.and_eq_true] at ha hb
  exact ⟨.bl _, .bl _, fun Q q => ⟨toP a, toP b, rp_dp (r1.mono e) ha.1, rp_dp (r2.mono e) hb.1, ha.2, hb.2, q⟩⟩))
theorem d_eqI {i j : Int} : Op2 K (gEq K) (.int i) (.int j) (.bl (decide (i = j))) := op2_l (op2_v fun {F H x y} e r1 r2 => ⟨.bl (decide (i = j)), .bl _, fun Q q => by
  rw [rp_int r1, rp_int r2]
  refine ⟨rfl, ?_⟩
  have h : decide (V.int i = V.int j) = decide (i = j) := by
    by_cases z : i = j
    · rw [decide_eq_true z, decide_eq_true (by rw [z])]
    · rw [decide_eq_false z, decide_eq_false (fun q => z (V.int.inj q))]
  rw [h]
  exact q⟩)
theorem d_neI {i j : Int} : Op2 K (gNe K) (.int i) (.int j) (.bl (!decide (i = j))) := op2_l (op2_v fun {F H x y} e r1 r2 => ⟨.bl (!decide (i = j)), .bl _, fun Q q => by
  rw [rp_int r1, rp_int r2]
  refine ⟨rfl, ?_⟩
  have h : decide (V.int i = V.int j) = decide (i = j) := by
    by_cases z : i = j
    · rw [decide_eq_true z, decide_eq_true (by rw [z])]
    · rw [decide_eq_false z, decide_eq_false (fun q => z (V.int.inj q))]
  rw [h]
  exact q⟩)
theorem dec_vstr {i j : Str} : decide (V.str i = V.str j) = decide (i = j) := by
  by_cases z : i = j
  · rw [decide_eq_true z, decide_eq_true (by rw [z])]
  · rw [decide_eq_false z, decide_eq_false (fun q => z (V.str.inj q))]
theorem d_eqS {i j : Str} : Op2 K (gEq K) (.str i) (.str j) (.bl (decide (i = j))) := op2_l (op2_v fun {F H x y} e r1 r2 => ⟨.bl (decide (i = j)), .bl _, fun Q q => by
  rw [rp_str r1, rp_str r2]
  refine ⟨rfl, ?_⟩
  rw [dec_vstr]
  exact q⟩)
theorem d_neS {i j : Str} : Op2 K (gNe K) (.str i) (.str j) (.bl (!decide (i = j))) := op2_l (op2_v fun {F H x y} e r1 r2 => ⟨.bl (!decide (i = j)), .bl _, fun Q q => by
  rw [rp_str r1, rp_str r2]
  refine ⟨rfl, ?_⟩
  rw [dec_vstr]
  exact q⟩)
def isNon : D → Bool
  | .non => true
  | _ => false
theorem rp_isN {F : Hp} {v : V} {d : D} (h : Rp K F v d) : decide (v = .non) = isNon d := by
  cases h <;> rfl
theorem d_isN {d : D} : Op2 K gIs d .non (.bl (isNon d)) := op2_l (op2_v fun {F H x y} e r1 r2 => ⟨.bl (isNon d), .bl _, fun Q q => ⟨rp_non r2, by rw [rp_isN r1]; exact q⟩⟩)
theorem d_niN {d : D} : Op2 K gIn2 d .non (.bl (!isNon d)) := op2_l (op2_v fun {F H x y} e r1 r2 => ⟨.bl (!isNon d), .bl _, fun Q q => ⟨rp_non r2, by rw [rp_isN r1]; exact q⟩⟩)
theorem d_isB {a b : Bool} : Op2 K gIs (.bl a) (.bl b) (.bl (decide (a = b))) := op2_r (op2_v fun {F H x y} e r1 r2 => ⟨_, .bl _, fun Q q => ⟨a, b, rp_bl r1, rp_bl r2, q⟩⟩)
/-! items -/
theorem atI_rp {F : Hp} {vs : List V} {ds : List D} {i : Int} {d : D} (r : RpA K F vs ds) (h : atI ds i = some d) : ∃ v, atI vs i = some v ∧ Rp K F v d := by
  unfold atI at h ⊢
  rw [r.length]
  cases q : ixN ds.length i with
  | none =>
    rw [q] at h
    cases h
  | some j =>
    rw [q] at h
    exact r.get h
theorem d_ixL {i : Int} (h : atI l i = some d) : Op2 K (gIx K) (.lst l) (.int i) d := op2_v fun {F H x y} e r1 r2 => by
  cases r1 with
  | lst h1 s1 =>
    obtain ⟨v, h3, h4⟩ := atI_rp s1 h
    exact ⟨v, h4, fun Q q => Or.inl ⟨_, _, i, v, rfl, rp_int r2, sq_of (e _ _ h1), h3, q⟩⟩
theorem d_ixT {i : Int} (h : atI l i = some d) : Op2 K (gIx K) (.tup l) (.int i) d := op2_v fun {F H x y} e r1 r2 => by
  cases r1 with
  | tup h1 s1 =>
    obtain ⟨v, h3, h4⟩ := atI_rp s1 h
    exact ⟨v, h4, fun Q q => Or.inr (Or.inl ⟨_, _, i, v, rfl, rp_int r2, st_of (e _ _ h1), h3, q⟩)⟩
theorem d_ixR {ns : List Int} {i n : Int} (h : atI ns i = some n) : Op2 K (gIx K) (.scr ns) (.int i) (.int n) := op2_v fun {F H x y} e r1 r2 => by
  cases r1 with
  | scr h1 =>
    refine ⟨.int n, .int n, fun Q q => Or.inl ⟨_, _, i, .int n, rfl, rp_int r2, ex_l e h1, ?_, q⟩⟩
    unfold atI at h ⊢
    rw [List.length_map]
    cases z : ixN ns.length i with
    | none =>
      rw [z] at h
      cases h
    | some j =>
      rw [z] at h
      show (ns.map V.int)[j]? = _
      have h' : ns[j]? = some n := h
      rw [List.getElem?_map, h']
      rfl
theorem d_ixS {z : Str} {i : Int} {c : Nat} (hz : z.length ≤ 100000) (h : atI z.cps.toList i = some c) : Op2 K (gIx K) (.str z) (.int i) (.str ⟨#[c]⟩) := op2_v fun {F H x y} e r1 r2 => by
  refine ⟨.str ⟨#[c]⟩, .str _, fun Q q => Or.inr (Or.inr ?_)⟩
  exact ⟨z, i, c, rp_str r1, rp_int r2, sz_of hz, h, q⟩
theorem atI_getD {α : Type} {xs : List α} {i : Int} (e : α) (h0 : 0 ≤ i) (h1 : i < (xs.length : Int)) : atI xs i = some (xs.getD i.toNat e) := by
  obtain ⟨j, rfl⟩ : ∃ j : Nat, i = (j : Int) := ⟨i.toNat, by omega⟩
  refine atI_nat ?_
  rw [Int.toNat_natCast, List.getD_eq_getElem?_getD, List.getElem?_eq_getElem (by omega)]
  rfl
theorem d_ixLn {i : Int} (h0 : 0 ≤ i) (h1 : i < (l.length : Int)) : Op2 K (gIx K) (.lst l) (.int i) (l.getD i.toNat .non) := d_ixL (atI_getD _ h0 h1)
theorem d_ixTn {i : Int} (h0 : 0 ≤ i) (h1 : i < (l.length : Int)) : Op2 K (gIx K) (.tup l) (.int i) (l.getD i.toNat .non) := d_ixT (atI_getD _ h0 h1)
theorem d_ixRn {ns : List Int} {i : Int} (h0 : 0 ≤ i) (h1 : i < (ns.length : Int)) : Op2 K (gIx K) (.scr ns) (.int i) (.int (ns.getD i.toNat 0)) := d_ixR (atI_getD _ h0 h1)
theorem d_ixSn {z : Str} {i : Int} (hz : z.length ≤ 100000) (h0 : 0 ≤ i) (h1 : i < (z.cps.toList.length : Int)) : Op2 K (gIx K) (.str z) (.int i) (.str ⟨#[z.cps.toList.getD i.toNat 0]⟩) := d_ixS hz (atI_getD _ h0 h1)
theorem getD_mapD {α : Type} (f : α → D) (e : α) : ∀ (ns : List α) (i : Nat), i < ns.length → (ns.map f).getD i .non = f (ns.getD i e)
  | [], i, h => by simp at h
  | n :: ns, 0, _ => rfl
  | n :: ns, i + 1, h => by
    show (ns.map f).getD i .non = f (ns.getD i e)
    exact getD_mapD f e ns i (by simpa using h)
theorem d_ixI {ns : List Int} {i : Int} (h0 : 0 ≤ i) (h1 : i < (ns.length : Int)) : Op2 K (gIx K) (.lst (ns.map D.int)) (.int i) (.int (ns.getD i.toNat 0)) := by
  have h := d_ixLn (K := K) (l := ns.map D.int) (i := i) h0 (by rw [List.length_map]; exact h1)
  rw [getD_mapD D.int 0 ns _ (by omega)] at h
  exact h
theorem d_ixStr {ns : List Str} {i : Int} (h0 : 0 ≤ i) (h1 : i < (ns.length : Int)) : Op2 K (gIx K) (.lst (ns.map D.str)) (.int i) (.str (ns.getD i.toNat Str.empty)) := by
  have h := d_ixLn (K := K) (l := ns.map D.str) (i := i) h0 (by rw [List.length_map]; exact h1)
  rw [getD_mapD D.str Str.empty ns _ (by omega)] at h
  exact h
theorem getD_in {α : Type} (e : α) : ∀ (ns : List α) (i : Nat), i < ns.length → ns.getD i e ∈ ns
  | [], i, h => by simp at h
  | n :: ns, 0, _ => List.mem_cons_self
  | n :: ns, i + 1, h => List.mem_cons_of_mem _ (getD_in e ns i (by simpa using h))
/-! slices -/
def cutD (xs : List D) (lo hi : Option Int) : List D := (xs.drop (HT.sIx xs.length 0 lo)).take (HT.sIx xs.length xs.length hi - HT.sIx xs.length 0 lo)
theorem cutD_rp {F : Hp} {vs : List V} {ds : List D} (r : RpA K F vs ds) (lo hi : Option Int) : RpA K F (cutV vs lo hi) (cutD ds lo hi) := by
  unfold cutV cutD
  rw [r.length]
  exact (r.drop _).take _
theorem o_sl {tl th : TO} {lo hi : Option Int} (h : EvD K te G (.lst l)) (h1 : EvP K tl G lo) (h2 : EvP K th G hi) : EvO K (tSl (gSl K) te tl th) G (cutD l lo hi) := .mk fun {H0 F0 F H σ} E Q q =>
  h E _ fun v F1 H1 E1 f1 g1 n1 r1 => h1 E1 _ fun F2 H2 E2 f2 g2 n2 => h2 E2 _ fun F3 H3 E3 f3 g3 n3 => by
    cases r1 with
    | lst ha rs =>
      refine Or.inl ⟨_, _, rfl, sq_of (g3 _ _ (g2 _ _ (E1.ef _ _ ha))), fun p hp => ?_⟩
      exact q p _ F3 _ (E3.grow (Ex.refl _) (Ex.new hp) (E3.ef.trans (Ex.new hp)) (Nw.refl _ _)) ((f1.trans f2).trans f3) (((g1.trans g2).trans g3).trans (Ex.new hp)) ((n1.trans n2 g1).trans n3 (g1.trans g2))
        (ex_none ((g1.trans g2).trans g3) hp) (ex_none E3.ef hp) upd_same (cutD_rp (rs.mono (f2.trans f3)) lo hi)
theorem e_slS {tl th : TO} {z : Str} {lo hi : Option Int} (h : EvD K te G (.str z)) (h1 : EvP K tl G lo) (h2 : EvP K th G hi) (hz : z.length ≤ 100000) : EvD K (tSl (gSl K) te tl th) G (.str (cutS z lo hi)) := .mk fun {H0 F0 F H σ} E Q q =>
  h E _ fun v F1 H1 E1 f1 g1 n1 r1 => h1 E1 _ fun F2 H2 E2 f2 g2 n2 => h2 E2 _ fun F3 H3 E3 f3 g3 n3 => by
    cases r1
    exact Or.inr ⟨z, rfl, sz_of hz, q _ F3 H3 E3 ((f1.trans f2).trans f3) ((g1.trans g2).trans g3) ((n1.trans n2 g1).trans n3 (g1.trans g2)) (.str _)⟩
/-! calls of built-ins -/
theorem n_max2 {i j : Int} : OpN K (gMax K) [.int i, .int j] (.int (max i j)) := opn_l (op1_v fun {F H vs} e r => by
  obtain ⟨v, w, rfl, r1, r2⟩ := rpa2 r
  refine ⟨.int (max i j), .int _, fun Q q => ⟨i, j, by rw [rp_int r1, rp_int r2], ?_⟩⟩
  have h : (if j > i then j else i) = max i j := by
    by_cases z : j > i
    · rw [if_pos z]
      omega
    · rw [if_neg z]
      omega
  rw [h]
  exact q)
theorem n_min2 {i j : Int} : OpN K (gMin K) [.int i, .int j] (.int (min i j)) := opn_l (op1_v fun {F H vs} e r => by
  obtain ⟨v, w, rfl, r1, r2⟩ := rpa2 r
  refine ⟨.int (min i j), .int _, fun Q q => ⟨i, j, by rw [rp_int r1, rp_int r2], ?_⟩⟩
  have h : (if j < i then j else i) = min i j := by
    by_cases z : j < i
    · rw [if_pos z]
      omega
    · rw [if_neg z]
      omega
  rw [h]
  exact q)
theorem n_abs {i : Int} : OpN K rAbs [.int i] (.int (i.natAbs : Int)) := op1_v fun {F H vs} e r => by
  obtain ⟨v, rfl, r1⟩ := rpa1 r
  refine ⟨.int (i.natAbs : Int), .int _, fun Q q => ⟨i, by rw [rp_int r1], ?_⟩⟩
  have h : (if i < 0 then -i else i) = (i.natAbs : Int) := by
    by_cases z : i < 0
    · rw [if_pos z]
      omega
    · rw [if_neg z]
      omega
  rw [h]
  exact q
theorem n_lenL : OpN K (rLen K) [.lst l] (.int (l.length : Int)) := op1_v fun {F H vs} e r => by
  obtain ⟨v, rfl, r1⟩ := rpa1 r
  cases r1 with
  | lst h1 s1 => exact ⟨.int _, .int _, fun Q q => ⟨_, l.length, rfl, Or.inl ⟨_, sq_of (e _ _ h1), s1.length.symm⟩, q⟩⟩
theorem n_lenT : OpN K (rLen K) [.tup l] (.int (l.length : Int)) := op1_v fun {F H vs} e r => by
  obtain ⟨v, rfl, r1⟩ := rpa1 r
  cases r1 with
  | tup h1 s1 => exact ⟨.int _, .int _, fun Q q => ⟨_, l.length, rfl, Or.inr ⟨_, st_of (e _ _ h1), s1.length.symm⟩, q⟩⟩
theorem n_lenR {ns : List Int} : OpN K (rLen K) [.scr ns] (.int (ns.length : Int)) := op1_v fun {F H vs} e r => by
  obtain ⟨v, rfl, r1⟩ := rpa1 r
  cases r1 with
  | scr h1 => exact ⟨.int _, .int _, fun Q q => ⟨_, ns.length, rfl, Or.inl ⟨_, ex_l e h1, by rw [List.length_map]⟩, q⟩⟩
theorem n_lenS {z : Str} (hz : z.length ≤ 100000) : OpN K (rLen K) [.str z] (.int (z.length : Int)) := op1_v fun {F H vs} e r => by
  obtain ⟨v, rfl, r1⟩ := rpa1 r
  cases r1
  exact ⟨.int _, .int _, fun Q q => ⟨_, z.length, rfl, ⟨sz_of hz, rfl⟩, q⟩⟩
theorem n_intS {z : Str} {n : Int} (h : PySem.intText? z = some n) (hz : z.length ≤ 640) : OpN K gInt [.str z] (.int n) := opn_r (op1_v fun {F H vs} e r => by
  obtain ⟨v, rfl, r1⟩ := rpa1 r
  cases r1
  exact ⟨.int _, .int _, fun Q q => ⟨z, n, rfl, h, hz, q⟩⟩)
theorem n_strI {n : Int} (h : n.natAbs.log2 < 1920) : OpN K gStr [.int n] (.str (toString n)) := opn_l (op1_v fun {F H vs} e r => by
  obtain ⟨v, rfl, r1⟩ := rpa1 r
  cases r1
  exact ⟨.str _, .str _, fun Q q => ⟨n, rfl, h, q⟩⟩)
def reprB (b : Bool) : Str := if b then "True" else "False"
theorem n_reprB {b : Bool} : OpN K gRepr [.bl b] (.str (reprB b)) := opn_r (opn_l (op1_v fun {F H vs} e r => by
  obtain ⟨v, rfl, r1⟩ := rpa1 r
  cases r1
  refine ⟨.str (reprB b), .str _, fun Q q => ⟨b, rfl, ?_⟩⟩
  unfold reprB at q
  cases b <;> exact q))
theorem n_reprI {n : Int} (h : n.natAbs.log2 < 1920) : OpN K gRepr [.int n] (.str (toString n)) := opn_l (op1_v fun {F H vs} e r => by
  obtain ⟨v, rfl, r1⟩ := rpa1 r
  cases r1
  exact ⟨.str _, .str _, fun Q q => ⟨n, rfl, h, q⟩⟩)
theorem n_reprN : OpN K gRepr [.non] (.str "None") := opn_r (opn_r (opn_l (op1_v fun {F H vs} e r => by
  obtain ⟨v, rfl, r1⟩ := rpa1 r
  cases r1
  exact ⟨.str _, .str _, fun Q q => ⟨rfl, q⟩⟩)))
theorem n_reprS {z : Str} (h : (reprText z).length ≤ sizeLine) : OpN K gRepr [.str z] (.str (reprText z)) := opn_r (opn_r (opn_r (op1_v fun {F H vs} e r => by
  obtain ⟨v, rfl, r1⟩ := rpa1 r
  cases r1
  exact ⟨.str _, .str _, fun Q q => ⟨z, rfl, h, q⟩⟩)))
theorem n_listL : OpNO K (rListOf K) [.lst l] l := .mk fun {F H vs} e r Q q => by
  obtain ⟨v, rfl, r1⟩ := rpa1 r
  cases r1 with
  | lst h1 s1 => exact ⟨_, _, rfl, Or.inl (sq_of (e _ _ h1)), fun p hp => q p _ _ (Ex.new hp) hp upd_same s1⟩
theorem n_listT : OpNO K (rListOf K) [.tup l] l := .mk fun {F H vs} e r Q q => by
  obtain ⟨v, rfl, r1⟩ := rpa1 r
  cases r1 with
  | tup h1 s1 => exact ⟨_, _, rfl, Or.inr (st_of (e _ _ h1)), fun p hp => q p _ _ (Ex.new hp) hp upd_same s1⟩
theorem n_all {bs : List Bool} : OpN K (rAll K) [.lst (bs.map D.bl)] (.bl (bs.all id)) := op1_v fun {F H vs} e r => by
  obtain ⟨v, rfl, r1⟩ := rpa1 r
  cases r1 with
  | lst h1 s1 => exact ⟨.bl _, .bl _, fun Q q => ⟨_, bs, rfl, sq_of (e _ _ (by rw [h1, s1.bls])), q⟩⟩
theorem n_any {bs : List Bool} : OpN K (rAny K) [.lst (bs.map D.bl)] (.bl (bs.any id)) := op1_v fun {F H vs} e r => by
  obtain ⟨v, rfl, r1⟩ := rpa1 r
  cases r1 with
  | lst h1 s1 => exact ⟨.bl _, .bl _, fun Q q => ⟨_, bs, rfl, sq_of (e _ _ (by rw [h1, s1.bls])), q⟩⟩
/-- the greatest, the least of a list -/
theorem n_maxL {ns : List Int} {m : Int} (h0 : m ∈ ns) (h1 : ∀ y ∈ ns, y ≤ m) : OpN K (gMax K) [.lst (ns.map D.int)] (.int m) := opn_r (op1_v fun {F H vs} e r => by
  obtain ⟨v, rfl, r1⟩ := rpa1 r
  cases r1 with
  | lst h2 s1 =>
    refine ⟨.int m, .int _, fun Q q => ⟨_, ns, rfl, sq_of (e _ _ (by rw [h2, s1.ints])), List.length_pos_of_mem h0, fun m' hm' hy => ?_⟩⟩
    have e1 := h1 m' hm'
    have e2 := hy m h0
    have e3 : m' = m := by omega
    rw [e3]
    exact q)
theorem n_minL {ns : List Int} {m : Int} (h0 : m ∈ ns) (h1 : ∀ y ∈ ns, m ≤ y) : OpN K (gMin K) [.lst (ns.map D.int)] (.int m) := opn_r (op1_v fun {F H vs} e r => by
  obtain ⟨v, rfl, r1⟩ := rpa1 r
  cases r1 with
  | lst h2 s1 =>
    refine ⟨.int m, .int _, fun Q q => ⟨_, ns, rfl, sq_of (e _ _ (by rw [h2, s1.ints])), List.length_pos_of_mem h0, fun m' hm' hy => ?_⟩⟩
    have e1 := h1 m' hm'
    have e2 := hy m h0
    have e3 : m' = m := by omega
    rw [e3]
    exact q)
/-! isinstance -/
theorem ty_of {F : Hp} {v : V} {d : D} (h : Rp K F v d) (hn : noObj d = true) {H : Hp} (e : Ex F H) : TyX K H v (.type (kindD d)) := by
  cases h with
  | non => exact .base .non
  | bl b => exact .base (.bl b)
  | int i => exact .base (.int i)
  | str x => exact .base (.str x)
  | lst h1 _ => exact .base (.lst (e _ _ h1))
  | tup h1 _ => exact .base (.tup (e _ _ h1))
  | dic h1 _ _ => exact .base (.dK (e _ _ h1))
  | obj _ _ _ => cases hn
  | exc _ => cases hn
  | scr h1 =>
    rcases ex_l e h1 with (h2 | ⟨o, h2⟩) | ⟨o, its, n, h2, h3, _⟩
    · exact .base (.lst h2)
    · exact .base (.frz h2)
    · exact .kList h2 h3
def isS : D → Bool
  | .str _ => true
  | _ => false
def isI : D → Bool
  | .int _ => true
  | .bl _ => true
  | _ => false
def isB : D → Bool
  | .bl _ => true
  | _ => false
def isL : D → Bool
  | .lst _ => true
  | .scr _ => true
  | _ => false
def isT : D → Bool
  | .tup _ => true
  | _ => false
theorem kit_str {x : D} (hn : noObj x = true) : kitB (kindD x) "str" = some (isS x) := by
  cases x with
  | non => exact (by decide +kernel : kitB "NoneType" "str" = some false)
  | bl _ => exact (by decide +kernel : kitB "bool" "str" = some false)
  | int _ => exact (by decide +kernel : kitB "int" "str" = some false)
  | str _ => exact (by decide +kernel : kitB "str" "str" = some true)
  | lst _ => exact (by decide +kernel : kitB "list" "str" = some false)
  | tup _ => exact (by decide +kernel : kitB "tuple" "str" = some false)
  | dic _ => exact (by decide +kernel : kitB "dict" "str" = some false)
  | obj _ _ => cases hn
  | exc _ => cases hn
  | scr _ => exact (by decide +kernel : kitB "list" "str" = some false)
theorem kit_int {x : D} (hn : noObj x = true) : kitB (kindD x) "int" = some (isI x) := by
  cases x with
  | non => exact (by decide +kernel : kitB "NoneType" "int" = some false)
  | bl _ => exact (by decide +kernel : kitB "bool" "int" = some true)
  | int _ => exact (by decide +kernel : kitB "int" "int" = some true)
  | str _ => exact (by decide +kernel : kitB "str" "int" = some false)
  | lst _ => exact (by decide +kernel : kitB "list" "int" = some false)
  | tup _ => exact (by decide +kernel : kitB "tuple" "int" = some false)
  | dic _ => exact (by decide +kernel : kitB "dict" "int" = some false)
  | obj _ _ => cases hn
  | exc _ => cases hn
  | scr _ => exact (by decide +kernel : kitB "list" "int" = some false)
theorem kit_bool {x : D} (hn : noObj x = true) : kitB (kindD x) "bool" = some (isB x) := by
  cases x with
  | non => exact (by decide +kernel : kitB "NoneType" "bool" = some false)
  | bl _ => exact (by decide +kernel : kitB "bool" "bool" = some true)
  | int _ => exact (by decide +kernel : kitB "int" "bool" = some false)
  | str _ => exact (by decide +kernel : kitB "str" "bool" = some false)
  | lst _ => exact (by decide +kernel : kitB "list" "bool" = some false)
  | tup _ => exact (by decide +kernel : kitB "tuple" "bool" = some false)
  | dic _ => exact (by decide +kernel : kitB "dict" "bool" = some false)
  | obj _ _ => cases hn
  | exc _ => cases hn
  | scr _ => exact (by decide +kernel : kitB "list" "bool" = some false)
theorem kit_list {x : D} (hn : noObj x = true) : kitB (kindD x) "list" = some (isL x) := by
  cases x with
  | non => exact (by decide +kernel : kitB "NoneType" "list" = some false)
  | bl _ => exact (by decide +kernel : kitB "bool" "list" = some false)
  | int _ => exact (by decide +kernel : kitB "int" "list" = some false)
  | str _ => exact (by decide +kernel : kitB "str" "list" = some false)
  | lst _ => exact (by decide +kernel : kitB "list" "list" = some true)
  | tup _ => exact (by decide +kernel : kitB "tuple" "list" = some false)
  | dic _ => exact (by decide +kernel : kitB "dict" "list" = some false)
  | obj _ _ => cases hn
  | exc _ => cases hn
  | scr _ => exact (by decide +kernel : kitB "list" "list" = some true)
theorem kit_tuple {x : D} (hn : noObj x = true) : kitB (kindD x) "tuple" = some (isT x) := by
  cases x with
  | non => exact (by decide +kernel : kitB "NoneType" "tuple" = some false)
  | bl _ => exact (by decide +kernel : kitB "bool" "tuple" = some false)
  | int _ => exact (by decide +kernel : kitB "int" "tuple" = some false)
  | str _ => exact (by decide +kernel : kitB "str" "tuple" = some false)
  | lst _ => exact (by decide +kernel : kitB "list" "tuple" = some false)
  | tup _ => exact (by decide +kernel : kitB "tuple" "tuple" = some true)
  | dic _ => exact (by decide +kernel : kitB "dict" "tuple" = some false)
  | obj _ _ => cases hn
  | exc _ => cases hn
  | scr _ => exact (by decide +kernel : kitB "list" "tuple" = some false)
theorem e_isi {T : String} {b : Bool} (h : EvD K ta G d) (hn : noObj d = true) (hk : kitB (kindD d) T = some b) : EvD K (tCB (rIsi K) (tCons ta (tCons (tC (.ty T)) tNil))) G (.bl b) := .mk fun {H0 F0 F H σ} E Q q =>
  h E _ fun v F1 H1 E1 f1 g1 n1 r1 => ⟨v, .ty T, .type (kindD d), .type T, b, rfl, .ty T, ty_of r1 hn E1.ef, kit_ty hk, q _ F1 H1 E1 f1 g1 n1 (.bl _)⟩
theorem e_isS (h : EvD K ta G d) (hn : noObj d = true) : EvD K (tCB (rIsi K) (tCons ta (tCons (tC (.ty "str")) tNil))) G (.bl (isS d)) := e_isi h hn (kit_str hn)
theorem e_isI (h : EvD K ta G d) (hn : noObj d = true) : EvD K (tCB (rIsi K) (tCons ta (tCons (tC (.ty "int")) tNil))) G (.bl (isI d)) := e_isi h hn (kit_int hn)
theorem e_isB (h : EvD K ta G d) (hn : noObj d = true) : EvD K (tCB (rIsi K) (tCons ta (tCons (tC (.ty "bool")) tNil))) G (.bl (isB d)) := e_isi h hn (kit_bool hn)
theorem e_isL (h : EvD K ta G d) (hn : noObj d = true) : EvD K (tCB (rIsi K) (tCons ta (tCons (tC (.ty "list")) tNil))) G (.bl (isL d)) := e_isi h hn (kit_list hn)
theorem e_isT (h : EvD K ta G d) (hn : noObj d = true) : EvD K (tCB (rIsi K) (tCons ta (tCons (tC (.ty "tuple")) tNil))) G (.bl (isT d)) := e_isi h hn (kit_tuple hn)
/-- sep.join(list of texts) -/
def rJoin (K : PySem.W.Frag) : V → List V → Hp → VK → Prop := fun x xs H Q => ∃ a p, ∃ ys : List Str, x = .str a ∧ xs = [.ref p] ∧ (SqL K H p (ys.map V.str) ∨ SqT K H p (ys.map V.str)) ∧
      (ys.map (·.length)).sum + ys.length * a.length ≤ 16777216 ∧ Q (.str (Txt.join a ys)) H
theorem e_join {a : Str} {ys : List Str} (h : EvD K ta G (.str a)) (h2 : EvD K tb G (.lst (ys.map D.str))) (hz : (ys.map (·.length)).sum + ys.length * a.length ≤ 16777216) : EvD K (tM1 (rJoin K) ta tb) G (.str (Txt.join a ys)) := .mk fun {H0 F0 F H σ} E Q q =>
  h E _ fun v F1 H1 E1 f1 g1 n1 r1 => by
    cases r1
    refine ⟨⟨a, rfl⟩, h2 E1 _ fun w F2 H2 E2 f2 g2 n2 r2 => ?_⟩
    cases r2 with
    | lst h3 s3 => exact ⟨a, _, ys, rfl, rfl, Or.inl (sq_of (E2.ef _ _ (by rw [h3, s3.strs]))), hz, q _ F2 H2 E2 (f1.trans f2) (g1.trans g2) (n1.trans n2 g1) (.str _)⟩
/-- text.index(sign) -/
def rSIndex : V → List V → Hp → VK → Prop := fun x xs H Q => ∃ a b i rest, x = .str a ∧ xs = [.str b] ∧ Builtin.Str.occurrences a b 0 a.length 1 = i :: rest ∧ Q (.int (i : Nat)) H
theorem e_sindex {a b : Str} {i : Nat} {rest : List Nat} (h : EvD K ta G (.str a)) (h2 : EvD K tb G (.str b)) (ho : Builtin.Str.occurrences a b 0 a.length 1 = i :: rest) : EvD K (tM1 rSIndex ta tb) G (.int (i : Int)) := .mk fun {H0 F0 F H σ} E Q q =>
  h E _ fun v F1 H1 E1 f1 g1 n1 r1 => by
    cases r1
    refine ⟨⟨a, rfl⟩, h2 E1 _ fun w F2 H2 E2 f2 g2 n2 r2 => ?_⟩
    cases r2
    exact ⟨a, b, i, rest, rfl, rfl, ho, q _ F2 H2 E2 (f1.trans f2) (g1.trans g2) (n1.trans n2 g1) (.int _)⟩
/-- {} and a written dict of one pair of numbers -/
theorem e_dnew : EvD K tDNewK G (.dic []) := .mk fun {H0 F0 F H σ} E Q q => fun p hp => by
  have ef : Ex F (upd F p (.dK [])) := Ex.new (ex_none E.ef hp)
  exact q _ (upd F p (.dK [])) _ (E.grow ef (Ex.new hp) (ex_upd_both E.ef) (nw_upd hp (Nw.refl _ _))) ef (Ex.new hp) (nw_upd hp (Nw.refl _ _)) (.dic (es := []) upd_same .nil .nil)
theorem e_disp1 {a b : Int} : EvD K (tDisp [((tC (.int a)), (tC (.int b)))]) G (.dic [(.int a, .int b)]) := .mk fun {H0 F0 F H σ} E Q q => fun p hp => by
  refine ⟨upd_same, [(Sum.inl a, V.int b)], rfl, (by show 1 ≤ 15; decide), ?_⟩
  rw [upd_upd]
  have ef : Ex F (upd F p (.dK [(Sum.inl a, V.int b)])) := Ex.new (ex_none E.ef hp)
  exact q _ (upd F p (.dK [(Sum.inl a, V.int b)])) _ (E.grow ef (Ex.new hp) (ex_upd_both E.ef) (nw_upd hp (Nw.refl _ _))) ef (Ex.new hp) (nw_upd hp (Nw.refl _ _)) (.dic (es := [(.int a, .int b)]) upd_same (.cons (.int a) .nil) (.cons (.int b) .nil))
theorem op1_neg {i : Int} : Op1 K (rU fun i => .int (-i)) (.int i) (.int (-i)) := .mk fun {F H x} e r Q q => ⟨i, rp_int r, q _ F H (Ex.refl F) e (Ex.refl H) (Nw.refl F H) (.int _)⟩
/-- fields -/
theorem lookup_rp {F : Hp} {f : Str} {d : D} : ∀ {gs : List (Str × V)} {fs : List (Str × D)}, gs.map (fun p => p.1) = fs.map (fun p => p.1) → RpA K F (gs.map fun p => p.2) (fs.map fun p => p.2) → fs.lookup f = some d → ∃ v, gs.lookup f = some v ∧ Rp K F v d
  | [], [], _, _, h => by cases h
  | [], _ :: _, h, _, _ => by cases h
  | _ :: _, [], h, _, _ => by cases h
  | (a, v) :: gs, (b, e) :: fs, hn, r, h => by
    have hab : a = b := by
      have := congrArg List.head? hn
      simpa using this
    have hn' : gs.map (fun p => p.1) = fs.map (fun p => p.1) := by
      have := congrArg List.tail hn
      simpa using this
    subst hab
    have r' : RpA K F (v :: gs.map fun p => p.2) (e :: fs.map fun p => p.2) := r
    cases r' with
    | cons r1 r2 =>
      by_cases z : f == a
      · rw [List.lookup_cons, z] at h ⊢
        cases h
        exact ⟨v, rfl, r1⟩
      · have z' : (f == a) = false := by simpa using z
        rw [List.lookup_cons, z'] at h ⊢
        exact lookup_rp hn' r2 h
theorem e_fld {C : Addr} {fs : List (Str × D)} {f : Str} (h : EvD K ta G (.obj C fs)) (hc : Cls K C) (hn : NoAttr K C f) (hl : fs.lookup f = some d) : EvD K (tFld K ta f) G d := .mk fun {H0 F0 F H σ} E Q q =>
  h E _ fun v F1 H1 E1 f1 g1 n1 r1 => by
    cases r1 with
    | obj h1 h2 h3 =>
      obtain ⟨v, k1, k2⟩ := lookup_rp h2 h3 hl
      exact ⟨_, C, _, _, v, rfl, E1.ef _ _ h1, hc, hn, k1, q v F1 H1 E1 f1 g1 n1 k2⟩
end
end Cy

set_option Elab.async false
set_option linter.all false
set_option maxRecDepth 100000
set_option maxHeartbeats 2000000
namespace Cy
open PySem L2 Evl
section
variable {K : PySem.W.Frag} {G G1 G2 : List Sl} {ta tb te tx : TE} {t u tt : TT} {tu tw tz : TS} {a b c d : D} {o : Out} {g : TG}
theorem st_guard {x : Bool} (h : EvTt K t G x) (h1 : x = true → StD K tu G (.rt d)) (h2 : x = false → StD K tw G (.rt d)) : StD K (tSeq (tIfS t tu tNext) tw) G (.rt d) := by
  cases x with
  | true => exact st_stop (st_if h (fun _ => h1 rfl) (fun q => nomatch q)) (fun _ q => nomatch q)
  | false => exact st_seq (st_if h (fun q => nomatch q) (fun _ => st_next)) (h2 rfl)
theorem st_guardO {x : Bool} {l : List D} (h : EvTt K t G x) (h1 : x = true → StD K tu G (.ro l)) (h2 : x = false → StD K tw G (.ro l)) : StD K (tSeq (tIfS t tu tNext) tw) G (.ro l) := by
  cases x with
  | true => exact st_stop (st_if h (fun _ => h1 rfl) (fun q => nomatch q)) (fun _ q => nomatch q)
  | false => exact st_seq (st_if h (fun q => nomatch q) (fun _ => st_next)) (h2 rfl)
/-- a guard that never fires -/
theorem st_pass (h : EvTt K t G false) (h2 : StD K tw G o) : StD K (tSeq (tIfS t tu tNext) tw) G o := st_seq (st_if h (fun q => nomatch q) (fun _ => st_next)) h2
theorem getD_map_range (items : List D) : (List.range items.length).map (fun i => items.getD i .non) = items := by
  apply List.ext_getElem
  · rw [List.length_map, List.length_range]
  · intro i h1 h2
    rw [List.getElem_map, List.getElem_range, List.getD_eq_getElem?_getD, List.getElem?_eq_getElem h2]
    rfl
theorem lcD_items (items : List D) (f : D → Bool) (v : D → D) : lcD items.length (fun i => f (items.getD i .non)) (fun i => v (items.getD i .non)) = (items.filter f).map v := by
  unfold lcD
  conv => rhs; rw [← getD_map_range items]
  rw [List.filter_map, List.map_map]
  rfl
theorem getD_of {items : List D} {i : Nat} (h : i < items.length) : items.getD i .non = items[i] := by
  rw [List.getD_eq_getElem?_getD, List.getElem?_eq_getElem h]
  rfl
theorem o_lcF {wi : TI} {items : List D} {j : Nat} (f : D → Bool) (v : D → D) (hi : ItD K wi G items) (hz : items.length ≤ 40000)
    (hf : ∀ d, d ∈ items → EvTt K tt ((wipeG G [j]).set j (.dat d)) (f d)) (hv : ∀ d, d ∈ items → f d = true → EvD K te ((wipeG G [j]).set j (.dat d)) (v d)) :
    EvO K (tLc wi (gName j) tt te [j]) G ((items.filter f).map v) := by
  rw [← lcD_items items f v]
  refine o_lc _ _ (fun i => (wipeG G [j]).set j (.dat (items.getD i .non))) keeps1 hi hz (fun i d h => ?_) (fun i h => ?_) (fun i h hh => ?_)
  · have hl := (List.getElem?_eq_some_iff.mp h)
    obtain ⟨h1, h2⟩ := hl
    rw [getD_of h1, h2]
    exact g_name
  · skip
    rw [getD_of h]
    exact hf _ (List.getElem_mem h)
  · skip
    rw [getD_of h] at hh ⊢
    exact hv _ (List.getElem_mem h) hh
theorem filter_true {α : Type} (l : List α) : l.filter (fun _ => true) = l := List.filter_eq_self.mpr fun _ _ => rfl
theorem o_lcM {wi : TI} {items : List D} {j : Nat} (v : D → D) (hi : ItD K wi G items) (hz : items.length ≤ 40000)
    (hv : ∀ d, d ∈ items → EvD K te ((wipeG G [j]).set j (.dat d)) (v d)) : EvO K (tLc wi (gName j) tYes te [j]) G (items.map v) := by
  have h := o_lcF (K := K) (G := G) (te := te) (tt := tYes) (j := j) (fun _ => true) v hi hz (fun d hd => t_yes) (fun d hd _ => hv d hd)
  rw [filter_true] at h
  exact h
/-- two names -/
theorem o_lcM2 {wi : TI} {items : List D} {i j : Nat} (hij : i ≠ j) (v w x : D → D) (hi : ItD K wi G items) (hz : items.length ≤ 40000) (hp : ∀ d, d ∈ items → d = .tup [v d, w d])
    (hv : ∀ d, d ∈ items → EvD K te (((wipeG G [i, j]).set i (.dat (v d))).set j (.dat (w d))) (x d)) : EvO K (tLc wi (gTup K 2 (gCons (gName i) (gCons (gName j) gNil))) tYes te [i, j]) G (items.map x) := by
  have e : items.map x = lcD items.length (fun _ => true) (fun i => x (items.getD i .non)) := by
    have := lcD_items items (fun _ => true) x
    rw [this, filter_true]
  rw [e]
  refine o_lc _ _ (fun n => ((wipeG G [i, j]).set i (.dat (v (items.getD n .non)))).set j (.dat (w (items.getD n .non)))) (keeps2 hij) hi hz (fun n d h => ?_) (fun n h => t_yes) (fun n h _ => ?_)
  · obtain ⟨h1, h2⟩ := List.getElem?_eq_some_iff.mp h
    rw [getD_of h1, h2]
    have hm : d ∈ items := h2 ▸ List.getElem_mem h1
    have hd := hp d hm
    conv => arg 4; rw [hd]
    exact g_tup (gs_cons g_name (gs_cons g_name gs_nil)) rfl
  · skip
    rw [getD_of h]
    exact hv _ (List.getElem_mem h)
/-- x, y = e1, e2 -/
theorem st_par {i j : Nat} {ta : TA} (h : EvS K ta G [a, b]) : StD K (tPar i j ta) G (.nx ((G.set i (.dat a)).set j (.dat b))) := .mk fun {H0 F0 F H σ E} En p => h En _ fun vs F1 H1 E1 f1 g1 n1 r1 => by
  obtain ⟨v, w, rfl, r2, r3⟩ := rpa2 r1
  exact ⟨v, w, rfl, p _ F1 H1 ((E1.setD r2 i).setD r3 j) f1⟩
theorem st_retN : StD K tRetN G (.rt .non) := .mk fun {H0 F0 F H σ E} En p => p .non F H En.ro .non
/-- xs.clear() of an owned list -/
theorem st_clear {i : Nat} {l : List D} (h : G[i]? = some (.own (.lst l))) : StD K (tDrop (tBM0 K "list" rClear (tVar i))) G (.nx (G.set i (.own (.lst [])))) := .mk fun {H0 F0 F H σ E} En p => by
  unfold tDrop tBM0
  exact e_own h En fun q xs hq hH hF hr => ⟨Or.inl ⟨rfl, xs, sq_of hH⟩, q, xs, rfl, rfl, hH, p σ F _ (En.mut h hq (.lst .nil)) (Ex.refl F)⟩
end
end Cy
namespace Cy
open PySem L2 Evl
/-! data of small depth may be compared -/
def okD : Nat → D → Bool
  | _, .non => true
  | _, .bl _ => true
  | _, .int _ => true
  | _, .str s => PyData.strOk s
  | 0, _ => false
  | n + 1, .lst xs => xs.all (okD n)
  | n + 1, .tup xs => xs.all (okD n)
  | _, .scr _ => false
  | _, .dic _ => false
  | _, .obj _ _ => false
  | _, .exc _ => false
theorem okD_all {n : Nat} (ih : ∀ d, okD n d = true → plain d = true ∧ (toP d).canLay0 = true ∧ (toP d).depth ≤ n) : ∀ xs : List D, xs.all (okD n) = true → plains xs = true ∧ PyData.canLayAll0 (toPs xs) = true ∧ PyData.depthAll (toPs xs) ≤ n
  | [], _ => ⟨by unfold plains; rfl, by unfold toPs PyData.canLayAll0; rfl, by unfold toPs PyData.depthAll; exact Nat.zero_le _⟩
  | x :: xs, h => by
    rw [List.all_cons, Bool.and_eq_true] at h
    obtain ⟨a, b, c⟩ := ih x h.1
    obtain ⟨a', b', c'⟩ := okD_all ih xs h.2
    refine ⟨by unfold plains; rw [a, a']; rfl, by unfold toPs PyData.canLayAll0; rw [b, b']; rfl, by unfold toPs PyData.depthAll; exact Nat.max_le.mpr ⟨c, c'⟩⟩
theorem okD_ok : ∀ (n : Nat) (d : D), okD n d = true → plain d = true ∧ (toP d).canLay0 = true ∧ (toP d).depth ≤ n := by
  intro n
  induction n with
  | zero =>
    intro d h
    cases d with
    | non => exact ⟨by unfold plain; rfl, by unfold toP PyData.canLay0; rfl, by unfold toP PyData.depth; exact Nat.zero_le _⟩
    | bl _ => exact ⟨by unfold plain; rfl, by unfold toP PyData.canLay0; rfl, by unfold toP PyData.depth; exact Nat.zero_le _⟩
    | int _ => exact ⟨by unfold plain; rfl, by unfold toP PyData.canLay0; rfl, by unfold toP PyData.depth; exact Nat.zero_le _⟩
    | str s => exact ⟨by unfold plain; rfl, by unfold toP PyData.canLay0; unfold okD at h; exact h, by unfold toP PyData.depth; exact Nat.zero_le _⟩
    | lst _ => unfold okD at h; cases h
    | tup _ => unfold okD at h; cases h
    | dic _ => unfold okD at h; cases h
    | obj _ _ => unfold okD at h; cases h
    | exc _ => unfold okD at h; cases h
    | scr _ => unfold okD at h; cases h
  | succ n ih =>
    intro d h
    cases d with
    | non => exact ⟨by unfold plain; rfl, by unfold toP PyData.canLay0; rfl, by unfold toP PyData.depth; exact Nat.zero_le _⟩
    | bl _ => exact ⟨by unfold plain; rfl, by unfold toP PyData.canLay0; rfl, by unfold toP PyData.depth; exact Nat.zero_le _⟩
    | int _ => exact ⟨by unfold plain; rfl, by unfold toP PyData.canLay0; rfl, by unfold toP PyData.depth; exact Nat.zero_le _⟩
    | str s => exact ⟨by unfold plain; rfl, by unfold toP PyData.canLay0; unfold okD at h; exact h, by unfold toP PyData.depth; exact Nat.zero_le _⟩
    | lst xs =>
      unfold okD at h
      obtain ⟨a, b, c⟩ := okD_all ih xs h
      exact ⟨by unfold plain; exact a, by unfold toP PyData.canLay0; exact b, by unfold toP PyData.depth; exact Nat.succ_le_succ c⟩
    | tup xs =>
      unfold okD at h
      obtain ⟨a, b, c⟩ := okD_all ih xs h
      exact ⟨by unfold plain; exact a, by unfold toP PyData.canLay0; exact b, by unfold toP PyData.depth; exact Nat.succ_le_succ c⟩
    | dic _ => unfold okD at h; cases h
    | obj _ _ => unfold okD at h; cases h
    | exc _ => unfold okD at h; cases h
    | scr _ => unfold okD at h; cases h
theorem ok_eq {n : Nat} {d : D} (h : okD n d = true) (hn : n ≤ 64) : okEq d = true := by
  obtain ⟨a, b, c⟩ := okD_ok n d h
  unfold okEq SeqAt.shaped
  rw [a, b, decide_eq_true (Nat.le_trans c hn)]
  rfl
end Cy

set_option Elab.async false
set_option linter.all false
set_option maxRecDepth 100000
set_option maxHeartbeats 2000000
namespace Cy
open PySem L2 Evl
/-! objects made, their fields set -/
def putD (f : Str) (d : D) : List (Str × D) → List (Str × D)
  | [] => [(f, d)]
  | (g, e) :: r => if g = f then (g, d) :: r else (g, e) :: putD f d r
theorem putF_putD {K : PySem.W.Frag} {F : Hp} {f : Str} {v : V} {d : D} (r : Rp K F v d) : ∀ {gs : List (Str × V)} {fs : List (Str × D)}, gs.map (fun p => p.1) = fs.map (fun p => p.1) → RpA K F (gs.map fun p => p.2) (fs.map fun p => p.2) →
    (putF f v gs).map (fun p => p.1) = (putD f d fs).map (fun p => p.1) ∧ RpA K F ((putF f v gs).map fun p => p.2) ((putD f d fs).map fun p => p.2)
  | [], [], _, _ => ⟨rfl, .cons r .nil⟩
  | [], _ :: _, h, _ => by cases h
  | _ :: _, [], h, _ => by cases h
  | (a, u) :: gs, (b, e) :: fs, hn, hr => by
    have hab : a = b := by
      have := congrArg List.head? hn
      simpa using this
    have hn' : gs.map (fun p => p.1) = fs.map (fun p => p.1) := by
      have := congrArg List.tail hn
      simpa using this
    subst hab
    have hr' : RpA K F (u :: gs.map fun p => p.2) (e :: fs.map fun p => p.2) := hr
    cases hr' with
    | cons r1 r2 =>
      obtain ⟨i1, i2⟩ := putF_putD r hn' r2
      unfold putF putD
      by_cases z : a = f
      · rw [if_pos z, if_pos z]
        exact ⟨by rw [List.map_cons, List.map_cons, hn'], .cons r r2⟩
      · rw [if_neg z, if_neg z]
        exact ⟨by rw [List.map_cons, List.map_cons, i1], .cons r1 i2⟩
section
variable {K : PySem.W.Frag} {G G1 G2 : List Sl} {ta tb te tx : TE} {t u tt : TT} {tu tw tz : TS} {a b c d : D} {o : Out} {g : TG}
theorem st_fld {i : Nat} {p C : Addr} {fs : List (Str × D)} {f : Str} (h : G[i]? = some (.own (.ins p C fs))) (he : EvD K te G d) (hc : Cls K C) (hn : NoAttr K C f) (hl : fs.length < 1000) :
    StD K (sFld K (tVar i) te f) G (.nx (G.set i (.own (.ins p C (putD f d fs))))) := .mk fun {H0 F0 F H σ E} En q => he En _ fun v F1 H1 E1 f1 g1 n1 r1 => by
  obtain ⟨p', o, a1, b1, c1, d1, r2⟩ := E1.own i _ h
  cases r2 with
  | ins hn1 hr1 =>
    refine ⟨_, a1, _, C, _, _, rfl, d1, hc, hn, ?_, ?_⟩
    · have := congrArg List.length hn1
      rw [List.length_map, List.length_map] at this
      rw [this]
      exact hl
    · obtain ⟨k1, k2⟩ := putF_putD (f := f) r1 hn1 hr1
      exact q σ F1 _ (E1.mut h a1 (.ins k1 k2)) f1
/-- the promise of an __init__ -/
def spI (K : PySem.W.Frag) (C : Addr) (R : List D → List (Str × D) → Prop) : Sp := fun vs H Q _ => ∃ F H1 x dx ws ds fs, vs = .ref x :: ws ∧ H = upd (upd H1 dx (.own x)) x (.ins C dx []) ∧ H1 x = none ∧ H1 dx = none ∧ dx ≠ x ∧ Ex F H1 ∧ RpA K F ws ds ∧ R ds fs ∧
  ∀ gs dx' F' H', Ro H1 F F' H' → F' x = none → H' x = some (.ins C dx' gs) → gs.map (fun p => p.1) = fs.map (fun p => p.1) → RpA K F' (gs.map fun p => p.2) (fs.map fun p => p.2) → Q .non H'
theorem spI_len {C : Addr} {R : List D → List (Str × D) → Prop} {vs : List V} {H : Hp} {Q : VK} {E : XK} {n : Nat} (hR : ∀ ds d, R ds d → ds.length = n) (h : spI K C R vs H Q E) : vs.length = n + 1 := by
  obtain ⟨F, H1, x, dx, ws, ds, fs, rfl, _, _, _, _, _, r, h1, _⟩ := h
  rw [List.length_cons, r.length, hR ds fs h1]
theorem e_make {C : Addr} {R : List D → List (Str × D) → Prop} {E : XK} {ta : TA} {ds : List D} {fs : List (Str × D)} (h : EvS K ta G ds) (hR : R ds fs) : EvD K (tMake C (spI K C R) [] E ta) G (.obj C fs) := .mk fun {H0 F0 F H σ} En Q q =>
  h En _ fun vs F1 H1 E1 f1 g1 n1 r1 => fun x dx hx hdx hne => by
    refine ⟨F1, H1, x, dx, vs ++ [], ds, fs, rfl, rfl, hx, hdx, hne, E1.ef, by rw [List.append_nil]; exact r1, hR, fun gs dx' F' H' ro hF hH hn hr => ⟨rfl, ?_⟩⟩
    have ef : Ex F' (upd F' x (.ins C dx' gs)) := Ex.new hF
    have nw : Nw F1 (upd F' x (.ins C dx' gs)) H1 := nw_upd hx ro.nf
    refine q (.ref x) (upd F' x (.ins C dx' gs)) H' (E1.grow (ro.e1.trans ef) ro.e0 (fun z o y => ?_) nw) ((f1.trans ro.e1).trans ef) (g1.trans ro.e0) (n1.trans nw g1) (.obj upd_same hn (hr.mono ef))
    by_cases hz : z = x
    · subst hz
      rw [upd_same] at y
      cases y
      exact hH
    · rw [upd_ne hz] at y
      exact ro.ef z o y
def argsI (n : Nat) (x C : Addr) (ds : List D) : List Sl := .own (.ins x C []) :: args (n - 1) ds
theorem body_I {N : List Str} {C : Addr} {R : List D → List (Str × D) → Prop} {vs : List V} {H : Hp} {Q : VK} {E : XK} {t : TS} (h : spI K C R vs H Q E) (hn : ∀ ds d, R ds d → ds.length + 1 ≤ N.length)
    (hb : ∀ x ds fs, R ds fs → ∃ G, G[0]? = some (.own (.ins x C fs)) ∧ StD K t (argsI N.length x C ds) (.nx G)) : t { nx := fun _ H' => Q .non H', rt := Q } (start N vs) H := by
  obtain ⟨F, H1, x, dx, ws, ds, fs, rfl, rfl, hx, hdx, hne, e, r, hR, q⟩ := h
  obtain ⟨G, hG, hs⟩ := hb x ds fs hR
  have hl := hn ds fs hR
  have eH : Ex H1 (upd (upd H1 dx (.own x)) x (.ins C dx [])) := fun z o y => by
    have h1 : z ≠ x := ne_of_none y hx
    have h2 : z ≠ dx := ne_of_none y hdx
    rw [upd_ne h1, upd_ne h2]
    exact y
  have hstart : start N (.ref x :: ws) = some (.ref x) :: start (N.drop 1) ws := by
    have h1 : ∀ (N : List Str) (vs : List V), start N vs = vs.map some ++ List.replicate (N.length - vs.length) none := fun N vs => by
      first | rfl | (unfold start; rfl)
    rw [h1, h1]
    show some (V.ref x) :: (ws.map some ++ List.replicate (N.length - (ws.length + 1)) none) = some (V.ref x) :: (ws.map some ++ List.replicate ((N.drop 1).length - ws.length) none)
    rw [List.length_drop]
    congr 3
    omega
  rw [hstart]
  have base := start_en (K := K) (N := N.drop 1) e r (by rw [List.length_drop]; omega)
  have E1 : En K H1 F F (upd (upd H1 dx (.own x)) x (.ins C dx [])) (some (.ref x) :: start (N.drop 1) ws) (argsI N.length x C ds) := by
    have hlen : (N.drop 1).length = N.length - 1 := List.length_drop
    unfold argsI
    rw [← hlen]
    refine ⟨fun i d h => ?_, fun i w h => ?_, fun i j li lj p hij h1 h2 h3 => ?_, eH, e.trans eH, Ex.refl F, fun a o h => .inl h, ?_⟩
    · cases i with
      | zero => cases h
      | succ i => exact base.dat i d (by simpa using h)
    · cases i with
      | zero =>
        simp at h
        subst h
        exact ⟨x, _, rfl, ex_none e hx, hx, upd_same, .ins rfl .nil⟩
      | succ i =>
        obtain ⟨p, o, a1, b1, c1, d1, r1⟩ := base.own i w (by simpa using h)
        rw [c1] at d1
        cases d1
    · cases i with
      | zero =>
        cases j with
        | zero => exact absurd rfl hij
        | succ j =>
          obtain ⟨p2, o, a1, b1, c1, d1, r1⟩ := base.own j lj (by simpa using h2)
          rw [c1] at d1
          cases d1
      | succ i =>
        obtain ⟨p2, o, a1, b1, c1, d1, r1⟩ := base.own i li (by simpa using h1)
        rw [c1] at d1
        cases d1
    · rw [List.length_cons, List.length_cons, base.len]
  refine hs E1 fun σ' F' H' E' f' => ?_
  obtain ⟨p, o, a1, b1, c1, d1, r1⟩ := E'.own 0 _ hG
  cases r1 with
  | ins hn1 hr1 =>
    exact q _ _ F' H' E'.ro b1 d1 hn1 hr1
/-! a method of an object that stays as it is -/
theorem lookup_none {f : Str} : ∀ {gs : List (Str × V)} {fs : List (Str × D)}, gs.map (fun p => p.1) = fs.map (fun p => p.1) → fs.lookup f = none → gs.lookup f = none
  | [], [], _, _ => rfl
  | [], _ :: _, h, _ => by cases h
  | _ :: _, [], h, _ => by cases h
  | (a, u) :: gs, (b, e) :: fs, hn, h => by
    have hab : a = b := by
      have := congrArg List.head? hn
      simpa using this
    have hn' : gs.map (fun p => p.1) = fs.map (fun p => p.1) := by
      have := congrArg List.tail hn
      simpa using this
    subst hab
    by_cases z : f == a
    · rw [List.lookup_cons, z] at h
      cases h
    · have z' : (f == a) = false := by simpa using z
      rw [List.lookup_cons, z'] at h ⊢
      exact lookup_none hn' h
theorem e_meth {C : Addr} {fs : List (Str × D)} {m : Str} {R : List D → D → Prop} {E : XK} {ta : TE} {tr : TA} {ds : List D} (h : EvD K ta G (.obj C fs)) (hm : fs.lookup m = none) (hr : EvS K tr G ds) (hR : R (.obj C fs :: ds) d) :
    EvD K (tMeth C m (spD K R) [] E ta tr) G d := .mk fun {H0 F0 F H σ} En Q q => h En _ fun v F1 H1 E1 f1 g1 n1 r1 => by
  have r1' := r1
  cases r1' with
  | obj h1 h2 h3 =>
    refine ⟨_, _, _, rfl, E1.ef _ _ h1, lookup_none h2 hm, hr E1 _ fun vs F2 H2 E2 f2 g2 n2 r2 => ?_⟩
    refine ⟨F2, .obj C fs :: ds, d, E2.ef, by rw [List.append_nil]; exact .cons (r1.mono f2) r2, hR, fun w F3 H3 ro r3 => ?_⟩
    exact q w F3 H3 (E2.grow ro.e1 ro.e0 ro.ef ro.nf) ((f1.trans f2).trans ro.e1) ((g1.trans g2).trans ro.e0) ((n1.trans n2 g1).trans ro.nf (g1.trans g2)) r3
/-! an owned list is shown for a moment: nothing of it stays -/
mutual
def noLst : D → Bool
  | .lst _ => false
  | .tup xs => noLsts xs
  | .dic _ => false
  | .obj _ fs => noLstF fs
  | .exc _ => false
  | .scr _ => false
  | _ => true
def noLsts : List D → Bool
  | [] => true
  | x :: xs => noLst x && noLsts xs
def noLstF : List (Str × D) → Bool
  | [] => true
  | (_, x) :: fs => noLst x && noLstF fs
end
theorem noLstF_map : ∀ fs : List (Str × D), noLstF fs = noLsts (fs.map fun p => p.2)
  | [] => by
    unfold noLstF
    rw [List.map_nil]
    unfold noLsts
    rfl
  | (s, x) :: fs => by
    unfold noLstF
    rw [List.map_cons]
    unfold noLsts
    rw [noLstF_map fs]
def hid (F : Hp) (p : Addr) : Hp := fun a => if a = p then none else F a
theorem hid_ne {F : Hp} {p a : Addr} (h : a ≠ p) : hid F p a = F a := if_neg h
mutual
theorem Rp.hid {F : Hp} {p : Addr} {xs : List V} (hp : F p = some (.lst xs)) : ∀ {v : V} {d : D}, Rp K F v d → noLst d = true → Rp K (hid F p) v d
  | _, _, .non, _ => .non
  | _, _, .bl b, _ => .bl b
  | _, _, .int i, _ => .int i
  | _, _, .str x, _ => .str x
  | _, .tup ds, .tup h r, q => .tup (by
      rw [hid_ne (fun z => by subst z; rw [hp] at h; cases h)]
      exact h) (RpA.hid hp r (by unfold noLst at q; exact q))
  | _, .lst _, .lst _ _, q => by unfold noLst at q; cases q
  | _, .dic _, .dic _ _ _, q => by unfold noLst at q; cases q
  | _, .obj C fs, .obj h1 h2 r, q => .obj (by
      rw [hid_ne (fun z => by subst z; rw [hp] at h1; cases h1)]
      exact h1) h2 (RpA.hid hp r (by unfold noLst at q; rw [noLstF_map] at q; exact q))
  | _, .exc _, .exc _, q => by unfold noLst at q; cases q
  | _, .scr _, .scr _, q => by unfold noLst at q; cases q
theorem RpA.hid {F : Hp} {p : Addr} {xs : List V} (hp : F p = some (.lst xs)) : ∀ {vs : List V} {ds : List D}, RpA K F vs ds → noLsts ds = true → RpA K (hid F p) vs ds
  | _, _, .nil, _ => .nil
  | _, d :: ds, .cons r t, q => by
    unfold noLsts at q
    rw [Bool.and_eq_true] at q
    exact .cons (Rp.hid hp r q.1) (RpA.hid hp t q.2)
end
theorem En.freezeL {H0 F0 F H : Hp} {σ : L2.St} (E : Cy.En K H0 F0 F H σ G) {i : Nat} {l : List D} (h : G[i]? = some (.own (.lst l))) : ∃ p xs, F p = none ∧ H p = some (.lst xs) ∧ Cy.En K H0 F0 (upd F p (.lst xs)) H σ (G.set i (.dat (.lst l))) := by
  obtain ⟨p, o, a, b, c, d, r⟩ := E.own i _ h
  cases r with
  | lst r =>
    rename_i xs
    refine ⟨p, xs, b, d, ?_⟩
    have ef : Ex F (upd F p (.lst xs)) := Ex.new b
    have hl : i < G.length := (List.getElem?_eq_some_iff.mp h).1
    refine ⟨fun j e q => ?_, fun j m q => ?_, fun x y lx ly p'' hxy h1 h2 h3 => ?_, E.e0, fun z o q => ?_, E.e1.trans ef, fun z o q => ?_, by rw [List.length_set, E.len]⟩
    · by_cases hij : i = j
      · subst hij
        rw [List.getElem?_set_self hl] at q
        cases q
        exact ⟨_, a, .lst upd_same (r.mono ef)⟩
      · rw [List.getElem?_set_ne hij] at q
        obtain ⟨v, q1, q2⟩ := E.dat j e q
        exact ⟨v, q1, q2.mono ef⟩
    · by_cases hij : i = j
      · subst hij
        rw [List.getElem?_set_self hl] at q
        cases q
      · rw [List.getElem?_set_ne hij] at q
        obtain ⟨p2, xs2, a2, b2, c2, d2, r2⟩ := E.own j m q
        have hne : p2 ≠ p := fun z => by
          subst z
          exact E.dis i j _ m p2 hij h q a a2
        exact ⟨p2, xs2, a2, by rw [upd_ne hne]; exact b2, c2, d2, r2.mono ef⟩
    · have nx : i ≠ x := fun z => by
        subst z
        rw [List.getElem?_set_self hl] at h1
        cases h1
      have ny : i ≠ y := fun z => by
        subst z
        rw [List.getElem?_set_self hl] at h2
        cases h2
      rw [List.getElem?_set_ne nx] at h1
      rw [List.getElem?_set_ne ny] at h2
      exact E.dis x y lx ly p'' hxy h1 h2 h3
    · by_cases hz : z = p
      · subst hz
        rw [upd_same] at q
        cases q
        exact d
      · rw [upd_ne hz] at q
        exact E.ef z o q
    · by_cases hz : z = p
      · subst hz
        exact .inr c
      · rw [upd_ne hz] at q
        exact E.nf z o q
theorem e_look {i : Nat} {l : List D} (h : G[i]? = some (.own (.lst l))) (hv : EvD K te (G.set i (.dat (.lst l))) d) (hd : noLst d = true) : EvD K te G d := .mk fun {H0 F0 F H σ} E Q q => by
  obtain ⟨p, xs, hF, hH, E1⟩ := E.freezeL h
  refine hv E1 Q fun v F2 H2 E2 f2 g2 n2 r2 => ?_
  have hp2 : F2 p = some (.lst xs) := f2 _ _ upd_same
  have k1 : Ex F (hid F2 p) := fun a o y => by
    have hne : a ≠ p := fun z => by
      subst z
      rw [hF] at y
      cases y
    rw [hid_ne hne]
    exact f2 a o (by rw [upd_ne hne]; exact y)
  have k2 : Ex (hid F2 p) H2 := fun a o y => by
    by_cases hne : a = p
    · subst hne
      unfold hid at y
      rw [if_pos rfl] at y
      cases y
    · rw [hid_ne hne] at y
      exact E2.ef a o y
  have k3 : Nw F (hid F2 p) H := fun a o y => by
    by_cases hne : a = p
    · subst hne
      unfold hid at y
      rw [if_pos rfl] at y
      cases y
    · rw [hid_ne hne] at y
      rcases n2 a o y with z | z
      · rw [upd_ne hne] at z
        exact .inl z
      · exact .inr z
  exact q v (hid F2 p) H2 (E.grow k1 g2 k2 k3) k1 g2 k3 (Rp.hid hp2 r2 hd)
/-- x.append(y.pop(j)) -/
theorem st_appPop {i k : Nat} {l m : List D} {j : Nat} (hik : i ≠ k) (h1 : G[i]? = some (.own (.lst l))) (h2 : G[k]? = some (.own (.lst m))) (he : EvD K tx G (.int (j : Int))) (hj : m[j]? = some d) (hz : l.length < 100000) (hm : m.length < 100000) :
    StD K (tDrop (tBM K "list" rAppend (tVar i) (tCons (tBM K "list" rPopAt (tVar k) (tCons tx tNil)) tNil))) G (.nx ((G.set k (.own (.lst (m.eraseIdx j)))).set i (.own (.lst (l ++ [d]))))) := .mk fun {H0 F0 F H σ E} En p => by
  unfold tDrop tBM
  refine e_own h1 En fun q xs hq hH hF hr => ⟨Or.inl ⟨rfl, xs, sq_of hH⟩, ?_⟩
  unfold tCons
  refine e_own h2 En fun q2 ys hq2 hH2 hF2 hr2 => ⟨Or.inl ⟨rfl, ys, sq_of hH2⟩, ?_⟩
  refine he En _ fun w F1 H1 E1 f1 g1 n1 r1 => ?_
  cases r1
  show rPopAt _ _ _ _
  obtain ⟨y, hy, ry⟩ := hr2.get hj
  have hjl : j < ys.length := (List.getElem?_eq_some_iff.mp hy).1
  have hlen := hr2.length
  have hne : q ≠ q2 := fun z => by
    subst z
    exact En.dis i k _ _ q hik h1 h2 hq hq2
  have hseq : seqIndex? (j : Int) ys.length = some j := by
    unfold seqIndex?
    simp
    omega
  refine ⟨q2, ys, (j : Int), j, y, rfl, rfl, g1 _ _ hH2, by omega, by omega, hseq, hy, ?_⟩
  have E2 := E1.mut h2 hq2 (.lst ((hr2.mono f1).erase j))
  have h1' : (G.set k (.own (.lst (m.eraseIdx j))))[i]? = some (.own (.lst l)) := by
    rw [List.getElem?_set_ne (fun z => hik z.symm)]
    exact h1
  refine ⟨q, xs, y, rfl, rfl, by rw [upd_ne hne]; exact g1 _ _ hH, sz_lt (by rw [hr.length]; exact hz), ?_⟩
  exact p σ F1 _ (E2.mut h1' hq (.lst ((hr.mono f1).app (.cons (ry.mono f1) .nil)))) f1
/-- tuple(list) -/
def rTupOf (K : PySem.W.Frag) : List V → Hp → VK → Prop := fun xs H Q => ∃ p ys, xs = [.ref p] ∧ ((SqL K H p ys ∧ ∀ l, H l = none → Q (.ref l) (upd H l (.tup ys))) ∨ (SqT K H p ys ∧ Q (.ref p) H))
theorem call_gTuple {X : Cx} : CallR X (.type "tuple") (rTupOf X.K) := call_tuple_of
theorem n_tupL {l : List D} : OpN K (rTupOf K) [.lst l] (.tup l) := .mk fun {F H vs} e r Q q => by
  obtain ⟨v, rfl, r1⟩ := rpa1 r
  cases r1 with
  | lst h1 s1 =>
    rename_i xs
    refine ⟨_, _, rfl, Or.inl ⟨sq_of (e _ _ h1), fun p hp => ?_⟩⟩
    have ef : Ex F (upd F p (.tup xs)) := Ex.new (ex_none e hp)
    exact q _ (upd F p (.tup xs)) _ ef (ex_upd_both e) (Ex.new hp) (nw_upd hp (Nw.refl _ _)) (.tup upd_same (s1.mono ef))
/-- list(range(a, b)) -/
theorem rg_1 {n : Int} (h : EvD K ta G (.int n)) : RgD K (tRg1 ta) G 0 n := .mk fun {H0 F0 F H σ} E Q q => h E _ fun v F1 H1 E1 f1 g1 n1 r1 => by
  cases r1
  exact ⟨n, rfl, q F1 H1 E1 f1 g1 n1⟩
theorem rg_2 {a b : Int} (h1 : EvD K ta G (.int a)) (h2 : EvD K tb G (.int b)) : RgD K (tRg2 ta tb) G a b := .mk fun {H0 F0 F H σ} E Q q => h1 E _ fun v F1 H1 E1 f1 g1 n1 r1 => h2 E1 _ fun w F2 H2 E2 f2 g2 n2 r2 => by
  cases r1
  cases r2
  exact ⟨a, b, rfl, rfl, q F2 H2 E2 (f1.trans f2) (g1.trans g2) (n1.trans n2 g1)⟩
theorem o_listRg {tr : L2.St → Hp → (Int → Int → Hp → Prop) → Prop} {a b : Int} (h : RgD K tr G a b) (hn : RgOk a b) : EvO K (tLstRg tr) G (rngD a (b - a).toNat) := .mk fun {H0 F0 F H σ} E Q q => h E _ fun F1 H1 E1 f1 g1 n1 => ⟨hn, fun p hp => by
  have hr : RpA K F1 (rgV a b) (rngD a (b - a).toNat) := by
    unfold rgV rngD
    have : ∀ l : List Nat, RpA K F1 (l.map fun (i : Nat) => V.int (a + (i : Nat))) (l.map fun (i : Nat) => D.int (a + (i : Int))) := by
      intro l
      induction l with
      | nil => exact .nil
      | cons x l ih => exact .cons (.int _) ih
    exact this _
  exact q p _ F1 _ (E1.grow (Ex.refl _) (Ex.new hp) (E1.ef.trans (Ex.new hp)) (Nw.refl _ _)) f1 (g1.trans (Ex.new hp)) n1 (ex_none g1 hp) (ex_none E1.ef hp) upd_same hr⟩
/-- xs[::-1] -/
theorem o_revL {l : List D} (h : EvD K te G (.lst l)) : EvO K (tRevL K te) G l.reverse := .mk fun {H0 F0 F H σ} E Q q => h E _ fun v F1 H1 E1 f1 g1 n1 r1 => by
  cases r1 with
  | lst h1 s1 => exact ⟨_, _, rfl, sq_of (E1.ef _ _ h1), fun p hp => q p _ F1 _ (E1.grow (Ex.refl _) (Ex.new hp) (E1.ef.trans (Ex.new hp)) (Nw.refl _ _)) f1 (g1.trans (Ex.new hp)) n1 (ex_none g1 hp) (ex_none E1.ef hp) upd_same s1.rev⟩
theorem n_intB {x : Bool} : OpN K gInt [.bl x] (.int (if x then 1 else 0)) := opn_l (op1_v fun {F H vs} e r => by
  obtain ⟨v, rfl, r1⟩ := rpa1 r
  cases r1
  exact ⟨.int _, .int _, fun Q q => Or.inr ⟨x, rfl, q⟩⟩)
/-- two lists handed back in a tuple -/
theorem st_ret2 {i j : Nat} {l m : List D} (hij : i ≠ j) (h1 : G[i]? = some (.own (.lst l))) (h2 : G[j]? = some (.own (.lst m))) : StD K (tRet (tTup (tCons (tVar i) (tCons (tVar j) tNil)))) G (.ro2 l m) := .mk fun {H0 F0 F H σ E} En p => by
  obtain ⟨q1, o1, a1, b1, c1, d1, r1⟩ := En.own i _ h1
  obtain ⟨q2, o2, a2, b2, c2, d2, r2⟩ := En.own j _ h2
  cases r1 with
  | lst r1 =>
    cases r2 with
    | lst r2 =>
      have hne : q1 ≠ q2 := fun z => by
        subst z
        exact En.dis i j _ _ q1 hij h1 h2 a1 a2
      refine ⟨_, a1, _, a2, (by show 2 ≤ sizeLine; decide), fun t ht => ?_⟩
      have en : Ex H (upd H t (.tup [.ref q1, .ref q2])) := Ex.new ht
      exact p t q1 _ q2 _ F _ ⟨En.e0.trans en, En.ef.trans en, En.e1, En.nf⟩ upd_same hne c1 b1 (en _ _ d1) r1 c2 b2 (en _ _ d2) r2
def spO2 (K : PySem.W.Frag) (R : List D → List D → List D → Prop) : Sp := fun vs H Q _ => ∃ F ds l m, Ex F H ∧ RpA K F vs ds ∧ R ds l m ∧ ∀ t p xs q ys F' H', Ro H F F' H' → H' t = some (.tup [.ref p, .ref q]) → p ≠ q → H p = none → F' p = none → H' p = some (.lst xs) → RpA K F' xs l → H q = none → F' q = none → H' q = some (.lst ys) → RpA K F' ys m → Q (.ref t) H'
theorem spO2_len {R : List D → List D → List D → Prop} {vs : List V} {H : Hp} {Q : VK} {E : XK} {n : Nat} (hR : ∀ ds l m, R ds l m → ds.length = n) (h : spO2 K R vs H Q E) : vs.length = n := by
  obtain ⟨F, ds, l, m, e, r, h1, _⟩ := h
  rw [r.length]
  exact hR ds l m h1
theorem body_O2 {N : List Str} {R : List D → List D → List D → Prop} {vs : List V} {H : Hp} {Q : VK} {E : XK} {t : TS} (h : spO2 K R vs H Q E) (hn : ∀ ds l m, R ds l m → ds.length ≤ N.length)
    (hb : ∀ ds l m, R ds l m → StD K t (args N.length ds) (.ro2 l m)) : t { nx := fun _ H' => Q .non H', rt := Q } (start N vs) H := by
  obtain ⟨F, ds, l, m, e, r, hR, q⟩ := h
  exact hb ds l m hR (start_en e r (hn ds l m hR)) q
/-- x, y = f(..) of such -/
theorem st_asg2 {i j : Nat} {R : List D → List D → List D → Prop} {E : XK} {ta : TA} {ds l m : List D} (hij : i ≠ j) (h : EvS K ta G ds) (hR : R ds l m) : StD K (tAsg (tCall (spO2 K R) [] E ta) (gTup K 2 (gCons (gName i) (gCons (gName j) gNil)))) G (.nx ((G.set i (.own (.lst l))).set j (.own (.lst m)))) := .mk fun {H0 F0 F H σ Ed} En p =>
  h En _ fun vs F1 H1 E1 f1 g1 n1 r1 => by
    refine ⟨F1, ds, l, m, E1.ef, by rw [List.append_nil]; exact r1, hR, fun t p1 xs q1 ys F2 H2 ro ht hne hp0 hpF hpH rx hq0 hqF hqH ry => ?_⟩
    have E2 := E1.grow ro.e1 ro.e0 ro.ef ro.nf
    refine ⟨t, _, rfl, Or.inl (Or.inl ht), rfl, _, _, rfl, _, _, rfl, rfl, ?_⟩
    have nslot : ∀ (a : Addr), H1 a = none → ∀ (k : Nat) (lk : Ow), G[k]? = some (.own lk) → σ[k]? ≠ some (some (.ref a)) := fun a ha k lk hk hs => by
      obtain ⟨p2, o2, a2, b2, c2, d2, r2⟩ := E1.own k lk hk
      rw [a2] at hs
      cases hs
      rw [ha] at d2
      cases d2
    have E3 := E2.setO (i := i) hpF (ex_none E1.e0 hp0) hpH (.lst rx) (fun k lk hk _ => nslot p1 hp0 k lk hk)
    have E4 := E3.setO (i := j) hqF (ex_none E1.e0 hq0) hqH (.lst ry) (fun k lk hk hjk => by
      by_cases hik : i = k
      · subst hik
        intro hs
        have hl : i < σ.length := by
          have := (List.getElem?_eq_some_iff.mp hs).1
          rw [List.length_set] at this
          exact this
        rw [List.getElem?_set_self hl] at hs
        cases hs
        exact hne rfl
      · rw [List.getElem?_set_ne hik] at hk ⊢
        exact nslot q1 hq0 k lk hk)
    exact p _ F2 H2 E4 (f1.trans ro.e1)
end
/-! comparing with a script -/
theorem ok_scr {ns : List Int} : okEq (.scr ns) = true := by
  have hall : ∀ l : List Int, PyData.canLayAll0 (l.map PyData.int) = true ∧ PyData.depthAll (l.map PyData.int) = 0 := by
    intro l
    induction l with
    | nil => exact ⟨by unfold PyData.canLayAll0; rfl, by unfold PyData.depthAll; rfl⟩
    | cons x l ih =>
      refine ⟨?_, ?_⟩
      · rw [List.map_cons]
        unfold PyData.canLayAll0
        rw [ih.1]
        unfold PyData.canLay0
        rfl
      · rw [List.map_cons]
        unfold PyData.depthAll
        rw [ih.2]
        unfold PyData.depth
        rfl
  have h1 : plain (.scr ns) = true := by unfold plain; rfl
  have h2 : SeqAt.shaped (toP (.scr ns)) = true := by
    unfold toP SeqAt.shaped PyData.canLay0 PyData.depth
    rw [(hall ns).1, (hall ns).2]
    decide
  unfold okEq
  rw [h1, h2]
  rfl
theorem ok_nil : okEq (.lst []) = true := ok_eq (n := 1) (by unfold okD; rfl) (by decide)
theorem eqD_scr (ns : List Int) : eqD (.scr ns) (.lst []) = ns.isEmpty := by
  unfold eqD
  cases ns with
  | nil => simp only [toP, toPs, List.map_nil, PyData.eqv, PyData.eqvAll, List.isEmpty_nil]
  | cons x r => simp only [toP, toPs, List.map_cons, PyData.eqv, PyData.eqvAll, List.isEmpty_cons]
/-! equal data -/
mutual
theorem eqv_self : ∀ (n : Nat) (d : D), okD n d = true → PyData.eqv (toP d) (toP d) = true
  | _, .non, _ => by simp only [toP, PyData.eqv]
  | _, .bl b, _ => by simp only [toP, PyData.eqv, beq_self_eq_true]
  | _, .int i, _ => by simp only [toP, PyData.eqv, beq_self_eq_true]
  | _, .str s, _ => by simp only [toP, PyData.eqv]; exact beq_iff_eq.mpr rfl
  | 0, .lst _, h => by unfold okD at h; cases h
  | 0, .tup _, h => by unfold okD at h; cases h
  | n + 1, .lst xs, h => by
    simp only [toP, PyData.eqv]
    exact eqvs_self n xs (by unfold okD at h; exact h)
  | n + 1, .tup xs, h => by
    simp only [toP, PyData.eqv]
    exact eqvs_self n xs (by unfold okD at h; exact h)
  | 0, .dic _, h => by unfold okD at h; cases h
  | n + 1, .dic _, h => by unfold okD at h; cases h
  | 0, .obj _ _, h => by unfold okD at h; cases h
  | n + 1, .obj _ _, h => by unfold okD at h; cases h
  | 0, .exc _, h => by unfold okD at h; cases h
  | n + 1, .exc _, h => by unfold okD at h; cases h
  | 0, .scr _, h => by unfold okD at h; cases h
  | n + 1, .scr _, h => by unfold okD at h; cases h
theorem eqvs_self : ∀ (n : Nat) (xs : List D), xs.all (okD n) = true → PyData.eqvAll (toPs xs) (toPs xs) = true
  | _, [], _ => by simp only [toPs, PyData.eqvAll]
  | n, x :: xs, h => by
    rw [List.all_cons, Bool.and_eq_true] at h
    simp only [toPs, PyData.eqvAll]
    rw [eqv_self n x h.1, eqvs_self n xs h.2]
    rfl
end
theorem eqD_self {n : Nat} {d : D} (h : okD n d = true) : eqD d d = true := eqv_self n d h
/-- what is equal, compared: x == y, x != y -/
theorem d_same {K : PySem.W.Frag} {n : Nat} {d : D} (h : okD n d = true) (hn : n ≤ 64) : Op2 K (gEq K) d d (.bl true) := by
  have := d_eqD (K := K) (ok_eq h hn) (ok_eq h hn)
  rw [eqD_self h] at this
  exact this
theorem d_sameN {K : PySem.W.Frag} {n : Nat} {d : D} (h : okD n d = true) (hn : n ≤ 64) : Op2 K (gNe K) d d (.bl false) := by
  have := d_neD (K := K) (ok_eq h hn) (ok_eq h hn)
  rw [eqD_self h] at this
  exact this
theorem ok_ints {n : Nat} (ns : List Int) : okD (n + 1) (.lst (ns.map D.int)) = true := by
  unfold okD
  refine List.all_eq_true.mpr fun d hd => ?_
  obtain ⟨i, _, rfl⟩ := List.mem_map.mp hd
  cases n <;> (unfold okD; rfl)
theorem ok_bls {n : Nat} (ns : List Bool) : okD (n + 1) (.lst (ns.map D.bl)) = true := by
  unfold okD
  refine List.all_eq_true.mpr fun d hd => ?_
  obtain ⟨i, _, rfl⟩ := List.mem_map.mp hd
  cases n <;> (unfold okD; rfl)
end Cy

set_option Elab.async false
set_option linter.all false
set_option maxRecDepth 100000
set_option maxHeartbeats 2000000
namespace Cy
open PySem PySem.Spec PyProof.Rows L2 Evl
theorem exK_ok {P : Program} {w : World} {H : Hp} {h : Heap} {a : Addr} {cls : Value} {d : Option Addr} {oe : Obj} {vs : Array Value} (e : h.get? a = some oe) (z : Zc cls d oe) (hd : oe.data = .fields vs) : ObjOk P w H h a (ExK cls d a) :=
  ⟨⟨oe, vs, e, z, hd⟩, ⟨oe, e⟩, fun h1 h2 ⟨o, vs, q, z, y⟩ k => ⟨o, vs, k o q, z, y⟩⟩
section
variable {X : Cx} {pins : List (Addr × Obj)} {σ : L2.St} {H : Hp} {s : Shared}
/-- what stands in the heap, wasn't there at the entry and isn't tracked, may be tracked, if it isn't pinned -/
theorem inv_track {a : Addr} {o : HO} (I : Inv X pins σ H s) (h0 : X.s_0.heap.get? a = none) (hn : H a = none) (nL : a ≠ X.env.locals) (nC : ∀ x c, X.env.cells.lookup x = some c → a ≠ c) (nP : ∀ p ∈ X.pn ++ pins, p.1 ≠ a) (new : ObjOk X.prog X.w (upd H a o) s.heap a o) :
    Inv X pins σ (upd H a o) s := by
  have off : ∀ b u, X.s_0.heap.get? b = some u → b ≠ a := fun b u q z => by
    rw [z, h0] at q
    cases q
  refine ⟨I.ok, I.os, I.bare, ⟨I.base.keep, I.base.slot, fun b u q n x => ?_, I.base.there, fun b xs q => ?_, fun b u xs q => ?_, fun b ps q => ?_⟩, I.loc, I.cell, ?_, fun x c q => ?_, fun p hp => ?_, ?_, I.len⟩
  · rw [upd_ne (off b u q)]
    exact I.base.free b u q n x
  · have := I.base.tups b xs q
    rw [upd_ne (ne_of_none this hn)]
    exact this
  · have := I.base.frzs b u xs q
    rw [upd_ne (ne_of_none this hn)]
    exact this
  · obtain ⟨more, e⟩ := I.base.tbls b ps q
    exact ⟨more, by rw [upd_ne (ne_of_none e hn)]; exact e⟩
  · rw [upd_ne (Ne.symm nL)]
    exact I.free
  · rw [upd_ne (Ne.symm (nC x c q))]
    exact I.freeC x c q
  · obtain ⟨g, n, ne, nf, v⟩ := I.pin p hp
    exact ⟨g, by rw [upd_ne (nP p hp)]; exact n, ne, nf, v⟩
  · exact HOk.laidN I.hok (fun _ _ q => q) hn new
/-- a pin more, a pin less -/
theorem inv_pins {X' : Cx} {pins' : List (Addr × Obj)} (I : Inv X pins σ H s) (e : X' = { X with pn := X'.pn, A := X'.A, calm := X'.calm, xe := X'.xe }) (ok : X'.Ok) (hp : ∀ p ∈ X'.pn ++ pins', p ∈ X.pn ++ pins) : Inv X' pins' σ H s := by
  cases X'
  cases e
  exact ⟨ok, I.os, I.bare, I.base, I.loc, I.cell, I.free, I.freeC, fun p q => I.pin p (hp p q), I.hok, I.len⟩
end
/-- what the clause 'except x as n' wishes where the exception is kept -/
def wKept (K : PySem.W.Frag) (c : Value) (i : Nat) (ts : Addr → Value → Option Addr → TS) (Wout : WX) (D : Ends) : WX := fun cls d σ H =>
  ∃ b, PySem.W.exmOne K cls c = some b ∧
    (b = true → ∀ a, H a = none → ts a cls d { nx := fun σ' H' => D.nx (σ'.set i none) (upd H' a (ExK cls d a)), rt := fun v H' => D.rt v (upd H' a (ExK cls d a)), bk := fun σ' H' => D.bk (σ'.set i none) (upd H' a (ExK cls d a)), ct := fun σ' H' => D.ct (σ'.set i none) (upd H' a (ExK cls d a)) } (σ.set i (some (.ref a))) H) ∧
    (b = false → Wout cls d σ H)
section
variable {X : Cx} {x n : Str} {c : Value} {i : Nat} {body suite : List Stmt} {b₀ : Stmt} {np pos pos' : Pos} {tb : WX → TS} {ts : Addr → Value → Option Addr → TS} {Wout : WX}
/-- behind the suite: the name goes, the exception stays, tracked -/
theorem kept_end {a : Addr} {oe : Obj} {vs : Array Value} {cls : Value} {d : Option Addr} {pins : List (Addr × Obj)} {σ : L2.St} {H : Hp} {s : Shared} {Q : Shared → Prop} (I : Inv (X.suite a ((a, oe) :: (X.pn ++ pins))) [] σ H s) (ok : X.Ok) (hN : X.N.Nodup) (hi : X.N[i]? = some n) (hln : X.env.kindOf n = some .local)
    (h0 : X.s_0.heap.get? a = none) (nC : ∀ x c, X.env.cells.lookup x = some c → a ≠ c) (nP : ∀ p ∈ X.pn ++ pins, p.1 ≠ a) (z : Zc cls d oe) (hd : oe.data = .fields vs) (hq : ∀ s', Inv X pins (σ.set i none) (upd H a (ExK cls d a)) s' → Q s') :
    wpAny (model X.prog X.w) X.A (do bindName X.env n .none; unbindBehindTheSuite X.env n pos') (fun _ s' => Q s') X.xe s := by
  have J : Inv X ((a, oe) :: pins) σ H s := inv_pins I rfl ok fun p hp => by
    show p ∈ (a, oe) :: (X.pn ++ pins) ++ []
    rw [List.append_nil]
    rcases List.mem_append.mp hp with q | q
    · exact List.mem_cons_of_mem _ (List.mem_append_left _ q)
    · rcases List.mem_cons.mp q with q | q
      · rw [q]
        exact List.mem_cons_self
      · exact List.mem_cons_of_mem _ (List.mem_append_right _ q)
  refine gone_ok J hN hi hln fun s' J' => hq s' ?_
  obtain ⟨g, hn, nL, _, _⟩ := J'.pin (a, oe) (List.mem_append_right _ List.mem_cons_self)
  have J2 : Inv X pins (σ.set i none) H s' := inv_pins J' rfl ok fun p hp => by
    rcases List.mem_append.mp hp with q | q
    · exact List.mem_append_left _ q
    · exact List.mem_append_right _ (List.mem_cons_of_mem _ q)
  exact inv_track J2 h0 hn nL nC nP (exK_ok g z hd)
theorem ps_try_kept (hs : X.stack = X.env :: X.outer) (hf : X.env.frame = some X.env.locals) (hN : X.N.Nodup) (hi : X.N[i]? = some n) (hln : X.env.kindOf n = some .local) (hc : Names X x c) (tk : Takes X Wout) (hcell : X.env.cells = []) (hex : X.ex = [])
    (hb : ∀ (W : WX) (pn : List (Addr × Obj)) (xe : Value → Shared → Prop), Takes (X.tr pn xe) W → PassesOwn (model X.prog X.w) X.A X.env xe → PSs (X.tr pn xe) body (tb W))
    (hsu : ∀ (a : Addr) (oe : Obj) (cls : Value) (d : Option Addr) (pn : List (Addr × Obj)), Zc cls d oe → (∃ vs, oe.data = .fields vs) → PSs (X.suite a ((a, oe) :: pn)) (b₀ :: suite) (ts a cls d)) :
    PS X (.Try body [.ExceptHandler (some (.Name x np)) (some n) (b₀ :: suite) pos'] [] [] pos) (fun D σ H => tb (wKept X.K c i ts Wout D) D σ H) := by
  refine ⟨fun pins s σ H D I h => wpAny_Try_except ?_⟩
  have ok := I.ok
  have hfr : X.A.frames = some (X.env :: X.outer) := by rw [ok.frames, hs]
  refine wpAny_mono ((hb (wKept X.K c i ts Wout D) (X.pn ++ pins) _ (fun u s' xx => ?_) PassesOwn.looking).run [] s σ H D (I.toTry _) h) (fun f s1 hsp => ?_) (fun e s1 he => he)
  rotate_left
  · cases f with
    | next =>
      obtain ⟨σ', H', J', q⟩ := hsp
      exact wpAny_execs_nil ⟨σ', H', J'.ofTry ok, q⟩
    | brk =>
      obtain ⟨σ', H', J', q⟩ := hsp
      exact ⟨σ', H', J'.ofTry ok, q⟩
    | cont =>
      obtain ⟨σ', H', J', q⟩ := hsp
      exact ⟨σ', H', J'.ofTry ok, q⟩
    | ret u =>
      obtain ⟨v, σ', H', J', r, q⟩ := hsp
      exact ⟨v, σ', H', J'.ofTry ok, r, q⟩
  obtain ⟨a, B, sI, pins', σ', H', cls, d, rfl, J', nb, up, sky, na, os, ag, b, hb1, hyes, hno⟩ := xx
  have J : Inv X pins σ' H' sI := J'.ofTry ok
  have sky' : Sky B (X.env :: X.outer) a (Zc cls d) X.env.locals s'.heap := by rw [← hs]; exact sky
  refine Sky.land Zc.steady hfr hf sky' fun h3 fl3 up3 => ?_
  obtain ⟨oe3, vs3, he3, hz3, hd3⟩ := fl3.there
  have nfr : a ∉ frs (X.env :: X.outer) := fun hm => by
    obtain ⟨_, o', e', hnf⟩ := fl3.2.2.1.mem hm
    rw [he3] at e'
    cases e'
    exact hnf _ hd3
  have nL : a ≠ X.env.locals := fun z => nfr (List.mem_filterMap.mpr ⟨X.env, List.mem_cons_self, by rw [hf, z]⟩)
  have nF : a ∉ X.fs := fun hm => by
    obtain ⟨e, he, q⟩ := List.mem_filterMap.mp hm
    exact nfr (List.mem_filterMap.mpr ⟨e, List.mem_cons_of_mem _ he, q⟩)
  -- it is new
  have gone : sI.heap.get? a = none := by
    cases q : sI.heap.get? a with
    | none => rfl
    | some o =>
      have := nb a o q (by
        show a ∉ frs X.stack
        rw [hs]
        exact nfr)
      rw [fl3.2.1] at this
      cases this
  have h0 : X.s_0.heap.get? a = none := by
    cases q : X.s_0.heap.get? a with
    | none => rfl
    | some o =>
      obtain ⟨o', e⟩ := J.base.there a o q (by
        rw [hex]
        exact fun z => nomatch z)
      rw [gone] at e
      cases e
  have nP : ∀ p ∈ X.pn ++ pins, p.1 ≠ a := fun p hp z => by
    obtain ⟨g, _⟩ := J.pin p hp
    rw [z, gone] at g
    cases g
  have nC : ∀ x c, X.env.cells.lookup x = some c → a ≠ c := fun x c e => by
    rw [hcell] at e
    cases e
  have J3 : Inv X pins σ' H' { s' with heap := h3 } := J.landed nb fl3.1 (up.trans up3) os ag
  have S3 := J3.suite he3 hd3 na nL nF
  refine wpAny_handleBy_cons (codeAny_handlers_test ?_) (by intro q; cases q)
  have LT : PySem.W.Looks (model X.prog X.w) h3 (typeOf (.ref a)) cls := fun A Q E s k q => wpAny_typeOf_ref (k _ _ he3) (by rw [hz3.1]; exact q)
  have test : ∀ {Q : Value → Shared → Prop} {E : Value → Shared → Prop}, Q c { s' with heap := h3 } → wpAny (model X.prog X.w) (X.A.mark (some (.ref a))) (eval (.Name x np) X.env) Q E { s' with heap := h3 } := fun {Q E} q => by
    obtain ⟨hg, hdbg, hm | ⟨hm, hv, hnn⟩⟩ := hc
    · exact ld_glob (X := X.suite a ((a, oe3) :: (X.pn ++ pins))) S3 hg hm q hdbg
    · exact ld_blt (X := X.suite a ((a, oe3) :: (X.pn ++ pins))) S3 hg hm hv q hnn hdbg
  refine test ((PySem.W.exm_one (M := model X.prog X.w) J3.kIn LT hb1).here ?_)
  cases b with
  | false =>
    refine wpAny_handleBy_nil ?_
    obtain ⟨_, _, _, oe, vs, T, _, _, he, _, hd, h1, _⟩ := id fl3
    unfold PySem.passOn
    refine wpAny_bind (wpAny_field he hd h1 ?_)
    rw [if_neg (show ¬ ((Value.ref T == Value.none) = true) from by simp)]
    have fin : wpAny (model X.prog X.w) X.A (setFlight (.ref a) X.env.frame) (fun _ s4 => wpAny (model X.prog X.w) X.A (throw (.ref a) : Sem Flow) (SP X pins D) X.xe s4) X.xe { s' with heap := h3 } := by
      rw [hf]
      refine HandSPX.setFlight_upZ fl3 fun h4 hh4 up4 => wpAny_throw (tk _ _ ?_)
      exact ⟨a, B, sI, pins, σ', H', cls, d, rfl, J, nb, (up.trans up3).trans up4, .inr (.inr (by rw [hs]; exact hh4)), na, os, ag, hno rfl⟩
    first
      | exact wpAny_bind (wpAny_pure (wpAny_bind fin))
      | exact wpAny_bind fin
  | true =>
    refine codeAny_handlers_suite_as (HandSPX.lands_againZ fl3 fun h4 fl4 up4 => ?_)
    have J4 : Inv X pins σ' H' { s' with heap := h4 } := J.landed nb fl4.1 ((up.trans up3).trans up4) os ag
    obtain ⟨oe4, vs4, he4, hz4, hd4⟩ := fl4.there
    refine store_ok (X := X.suite a ((a, oe4) :: (X.pn ++ pins))) (v := .ref a) (J4.suite he4 hd4 na nL nF) hN hi (.inl hln) rfl (fun s5 S5 => ?_) (.inr hln)
    refine wpAny_mono ((hsu a oe4 cls d (X.pn ++ pins) hz4 ⟨_, hd4⟩).run [] s5 _ H' _ S5 (hyes rfl a na)) (fun f s6 hsp => ?_) (fun _ _ z => False.elim z)
    cases f with
    | next =>
      obtain ⟨σ6, H6, S6, q6⟩ := hsp
      exact kept_end S6 ok hN hi hln h0 nC nP hz4 hd4 fun s7 J7 => ⟨_, _, J7, q6⟩
    | brk =>
      obtain ⟨σ6, H6, S6, q6⟩ := hsp
      exact kept_end S6 ok hN hi hln h0 nC nP hz4 hd4 fun s7 J7 => ⟨_, _, J7, q6⟩
    | cont =>
      obtain ⟨σ6, H6, S6, q6⟩ := hsp
      exact kept_end S6 ok hN hi hln h0 nC nP hz4 hd4 fun s7 J7 => ⟨_, _, J7, q6⟩
    | ret u =>
      obtain ⟨v6, σ6, H6, S6, r6, q6⟩ := hsp
      exact kept_end S6 ok hN hi hln h0 nC nP hz4 hd4 fun s7 J7 => ⟨_, _, _, J7, r6, q6⟩
end
/-! isinstance of an exception that is kept -/
def rIsK (K : PySem.W.Frag) : List V → Hp → VK → Prop := fun xs H Q => ∃ (a D : Addr) (c : V) (cv : Value) (b : Bool), xs = [.ref a, c] ∧ H a = some (ExK (.ref D) none a) ∧ ExcC K D ∧ (∀ u, RelV c u → u = cv) ∧ PySem.W.kitOne K (.ref D) cv = some b ∧ Q (.bl b) H
theorem call_isK {X : Cx} : CallR X (.builtin "isinstance") (rIsK X.K) := by
  intro pins s σ H xs us Q I r h
  obtain ⟨a, D, c, cv, b, rfl, ha, C, hcv, e, q⟩ := h
  cases r with
  | cons rx rr =>
    cases rr with
    | cons rt rr =>
      cases rr
      cases rx
      have ec := hcv _ rt
      subst ec
      obtain ⟨⟨oe, vs, hget, hz, hv⟩, _⟩ := I.hok a _ ha
      have J : PySem.W.InstAt s.heap a oe D none := by
        obtain ⟨oc, od, oda, osl⟩ := oe
        obtain ⟨h1, h2⟩ := hz
        dsimp only at h1 h2 hv
        subst h1 h2 hv
        exact ⟨hget, rfl, rfl, trivial⟩
      exact PySem.W.kia_one (PySem.W.handS_kitx_exc C.hg C.hk C.hs C.hd C.ha C.hn C.ht C.hm) I.kIn J e (fun z => nomatch z) fun tk => ⟨.bl b, H, I.kept (t' := tk) fun _ _ z => z, rfl, q⟩
/-! C(..) that may raise, at the slots where it stands -/
section
variable {X : Cx} {CX : CXT} {k : Nat} {f C : Addr} {fd : FuncData} {ps : List Str} {ds : List Value} {dvs : List V} {sp : Sp} {E : L2.St → XK} {x : Str} {p pos : Pos} {e : Expr} {es : List Expr} {t : TA}
def tMakeS (C : Addr) (sp : Sp) (E : L2.St → XK) (t : TA) : TE := fun σ H Q => tMake C sp [] (E σ) t σ H Q
theorem pe_makeS (M : Mk X.K C f) (F : FnOk X.prog X.w X.K X.mg X.base CX k f fd ps sp) (hr : Room (k + 1) X.A) (hg : Gl X x) (hm : X.mg x = some (.ref C)) (hb : Binds X.K fd ps []) (hx : ∀ σ, PassesAt CX X σ (E σ)) (ha : PA X (e :: es) t)
    (hdb : (x == ("__debug__" : Str)) = false := by decide) (he : starEach (e :: es) X.env = (false, eval e X.env) :: starEach es X.env := by rfl) (hpl : (backTo pos (starEach es X.env)).any (·.1) = false := by rfl) :
    PE X (.Call (.Name x p) (e :: es) [] pos) (tMakeS C sp E t) := by
  refine ⟨fun pins s σ H Q I h => wpAny_Call_Name_kw (ld_glob I hg hm ?_ hdb)⟩
  refine PySem.W.callWith_K (h₀ := X.base) I.ok.mod.kin M.kp (thn (ha.run pos pins s σ H _ I h) fun us s1 ⟨vs, H1, I1, r, q⟩ => ⟨I1.kIn, ?_⟩) he hpl
  -- the object, then its __init__
  have q0 := q (s1.heap.objs.size + 1) s1.heap.objs.size (I1.hok.fresh (Nat.le_succ _)) (I1.hok.fresh (Nat.le_refl _)) (Nat.ne_of_lt (Nat.lt_succ_self _))
  rw [List.append_nil] at q0
  have I2 := Inv.made (C := C) I1
  have r2 : Vals (V.ref (s1.heap.objs.size + 1) :: vs) (Value.ref (s1.heap.objs.size + 1) :: us) := .cons rfl r
  have hl : (Value.ref (s1.heap.objs.size + 1) :: us).length = ps.length := by
    rw [← r2.length]
    exact F.len _ _ _ _ q0
  have b := hb _ (Value.ref (s1.heap.objs.size + 1) :: us) I2.kIn (by rw [List.append_nil]; exact hl)
  rw [List.append_nil] at b
  refine wpAny_call (make_map (f := f) I1.kIn M.makes M.init (beq_iff_eq.mp M.fn) (codeAny_mono (F.run _ X.stack _ _ _ _ _ _ _ (hr.make C us []) (I2.env0.make C us []) b r2 q0) fun r s' hq => ?_))
  cases r with
  | error u => exact hx σ pins _ _ u s' I2 hq
  | ok fl =>
    cases fl with
    | ret u =>
      obtain ⟨v, H', I3, rv, ev, q3⟩ := I2.after hq
      subst ev
      exact ⟨rv, ⟨V.ref (s1.heap.objs.size + 1), H', I3, rfl, q3⟩⟩
    | next => exact False.elim hq
    | brk => exact False.elim hq
    | cont => exact False.elim hq
end
end Cy
namespace Cy
open PySem L2 Evl
/-! promises of defs that may raise -/
inductive Res where
  | ok (d : D)
  | exc (C : Addr)
def Res.out (r : Res) (X : XK) : Out := match r with
  | .ok d => .rt d
  | .exc C => .ex C X
def spX (K : PySem.W.Frag) (R : List D → Res → Prop) : Sp := fun vs H Q E => ∃ F ds r, Ex F H ∧ RpA K F vs ds ∧ R ds r ∧ match r with
  | .ok d => ∀ v F' H', Ro H F F' H' → Rp K F' v d → Q v H'
  | .exc C => ∀ F' H', Ro H F F' H' → E (.ref C) none H'
/-- an __init__ that may raise -/
inductive ResI where
  | ok (fs : List (Str × D))
  | exc (C : Addr)
def spIX (K : PySem.W.Frag) (C : Addr) (R : List D → ResI → Prop) : Sp := fun vs H Q E => ∃ F H1 x dx ws ds r, vs = .ref x :: ws ∧ H = upd (upd H1 dx (.own x)) x (.ins C dx []) ∧ H1 x = none ∧ H1 dx = none ∧ dx ≠ x ∧ Ex F H1 ∧ RpA K F ws ds ∧ R ds r ∧ match r with
  | .ok fs => ∀ gs dx' F' H', Ro H1 F F' H' → F' x = none → H' x = some (.ins C dx' gs) → gs.map (fun p => p.1) = fs.map (fun p => p.1) → RpA K F' (gs.map fun p => p.2) (fs.map fun p => p.2) → Q .non H'
  | .exc D => ∀ F' H', Ro H1 F F' H' → E (.ref D) none H'
section
variable {K : PySem.W.Frag} {G G1 G2 : List Sl} {ta : TA} {te tx : TE} {t u tt : TT} {tu tw tz : TS} {d : D} {ds l : List D} {o : Out} {g : TG} {X : XK} {C : Addr}
theorem spX_len {R : List D → Res → Prop} {vs : List V} {H : Hp} {Q : VK} {E : XK} {n : Nat} (hR : ∀ ds d, R ds d → ds.length = n) (h : spX K R vs H Q E) : vs.length = n := by
  obtain ⟨F, ds, d, e, r, h1, _⟩ := h
  rw [r.length]
  exact hR ds d h1
theorem spIX_len {R : List D → ResI → Prop} {vs : List V} {H : Hp} {Q : VK} {E : XK} {n : Nat} (hR : ∀ ds d, R ds d → ds.length = n) (h : spIX K C R vs H Q E) : vs.length = n + 1 := by
  obtain ⟨F, H1, x, dx, ws, ds, fs, rfl, _, _, _, _, _, r, h1, _⟩ := h
  rw [List.length_cons, r.length, hR ds fs h1]
/-- a def's body -/
theorem body_X {N : List Str} {R : List D → Res → Prop} {vs : List V} {H : Hp} {Q : VK} {E : XK} {t : XK → TS} (h : spX K R vs H Q E) (hn : ∀ ds d, R ds d → ds.length ≤ N.length)
    (hb : ∀ ds r (E : XK), R ds r → StD K (t E) (args N.length ds) (r.out E)) : t E { nx := fun _ H' => Q .non H', rt := Q } (start N vs) H := by
  obtain ⟨F, ds, r, e, ra, hR, q⟩ := h
  have hs := hb ds r E hR
  cases r with
  | ok d => exact hs (start_en e ra (hn ds _ hR)) fun v F' H' ro r' => q v F' H' ro r'
  | exc C => exact hs (start_en e ra (hn ds _ hR)) fun F' H' ro => q F' H' ro
/-- raise C(text) -/
def tRaise (C : Addr) (X : XK) (ta : TE) : TS := fun _ σ H => ta σ H fun _ H' => X (.ref C) none H'
theorem st_raise (h : EvD K te G d) : StD K (tRaise C X te) G (.ex C X) := .mk fun {H0 F0 F H σ E} En p => h En _ fun v F1 H1 E1 f1 g1 n1 r1 => p F1 H1 E1.ro
def tRaise0 (C : Addr) (X : XK) : TS := fun _ _ H => X (.ref C) none H
theorem st_raise0 : StD K (tRaise0 C X) G (.ex C X) := .mk fun {H0 F0 F H σ E} En p => p F H En.ro
/-- a guard that fires -/
theorem st_fire (h : EvTt K t G true) (h2 : StD K tu G o) (ho : ∀ G, o ≠ .nx G) : StD K (tSeq (tIfS t tu tNext) tw) G o := st_stop (st_if h (fun _ => h2) (fun q => nomatch q)) ho
/-- a call that hands something back -/
theorem e_callX {R : List D → Res → Prop} (h : EvS K ta G ds) (hR : R ds (.ok d)) : EvD K (tCall (spX K R) [] X ta) G d := .mk fun {H0 F0 F H σ} En Q q =>
  h En _ fun vs F1 H1 E1 f1 g1 n1 r1 => by
    refine ⟨F1, ds, .ok d, E1.ef, by rw [List.append_nil]; exact r1, hR, fun v F2 H2 ro r2 => ?_⟩
    exact q v F2 H2 (E1.grow ro.e1 ro.e0 ro.ef ro.nf) (f1.trans ro.e1) (g1.trans ro.e0) (n1.trans ro.nf g1) r2
theorem Ro.back {H0 F0 F1 H1 F' H' : Hp} {σ : L2.St} (E : En K H0 F0 F1 H1 σ G) (ro : Ro H1 F1 F' H') : Ro H0 F0 F' H' := ⟨E.e0.trans ro.e0, ro.ef, E.e1.trans ro.e1, fun a o q => by
  rcases ro.nf a o q with z | z
  · exact E.nf a o z
  · exact .inr (ex_none E.e0 z)⟩
/-- a call that raises: what is done with what it would hand back isn't done -/
theorem x_call {R : List D → Res → Prop} (h : EvS K ta G ds) (hR : R ds (.exc C)) {H0 F0 F H : Hp} {σ : L2.St} (En : En K H0 F0 F H σ G) {Q : VK} (q : ∀ F' H', Ro H0 F0 F' H' → X (.ref C) none H') : tCall (spX K R) [] X ta σ H Q :=
  h En _ fun vs F1 H1 E1 f1 g1 n1 r1 => ⟨F1, ds, .exc C, E1.ef, by rw [List.append_nil]; exact r1, hR, fun F2 H2 ro => q F2 H2 (Ro.back E1 ro)⟩
theorem st_asgX {R : List D → Res → Prop} (h : EvS K ta G ds) (hR : R ds (.exc C)) : StD K (tAsg (tCall (spX K R) [] X ta) g) G (.ex C X) := .mk fun {H0 F0 F H σ E} En p => x_call h hR En p
theorem st_dropX {R : List D → Res → Prop} (h : EvS K ta G ds) (hR : R ds (.exc C)) : StD K (tDrop (tCall (spX K R) [] X ta)) G (.ex C X) := .mk fun {H0 F0 F H σ E} En p => x_call h hR En p
theorem st_retX {R : List D → Res → Prop} (h : EvS K ta G ds) (hR : R ds (.exc C)) : StD K (tRet (tCall (spX K R) [] X ta)) G (.ex C X) := .mk fun {H0 F0 F H σ E} En p => x_call h hR En p
theorem startI_en {N : List Str} {F H1 : Hp} {x dx C : Addr} {ws : List V} (hx : H1 x = none) (hdx : H1 dx = none) (hne : dx ≠ x) (e : Ex F H1) (r : RpA K F ws ds) (hl : ds.length + 1 ≤ N.length) :
    En K H1 F F (upd (upd H1 dx (.own x)) x (.ins C dx [])) (start N (.ref x :: ws)) (argsI N.length x C ds) := by
  have eH : Ex H1 (upd (upd H1 dx (.own x)) x (.ins C dx [])) := fun z o y => by
    rw [upd_ne (ne_of_none y hx), upd_ne (ne_of_none y hdx)]
    exact y
  have hst : ∀ (N : List Str) (vs : List V), start N vs = vs.map some ++ List.replicate (N.length - vs.length) none := fun N vs => by
    first | rfl | (unfold start; rfl)
  have hstart : start N (.ref x :: ws) = some (.ref x) :: start (N.drop 1) ws := by
    rw [hst, hst, List.length_drop]
    show some (V.ref x) :: (ws.map some ++ List.replicate (N.length - (ws.length + 1)) none) = some (V.ref x) :: (ws.map some ++ List.replicate (N.length - 1 - ws.length) none)
    congr 3
    omega
  have base := start_en (K := K) (N := N.drop 1) e r (by rw [List.length_drop]; omega)
  have hlen : (N.drop 1).length = N.length - 1 := List.length_drop
  rw [hstart]
  unfold argsI
  rw [← hlen]
  refine ⟨fun i d h => ?_, fun i w h => ?_, fun i j li lj p hij h1 h2 h3 => ?_, eH, e.trans eH, Ex.refl F, fun a o h => .inl h, ?_⟩
  · cases i with
    | zero => cases h
    | succ i => exact base.dat i d (by simpa using h)
  · cases i with
    | zero =>
      simp at h
      subst h
      exact ⟨x, _, rfl, ex_none e hx, hx, upd_same, .ins rfl .nil⟩
    | succ i =>
      obtain ⟨p, o, a1, b1, c1, d1, r1⟩ := base.own i w (by simpa using h)
      rw [c1] at d1
      cases d1
  · cases i with
    | zero =>
      cases j with
      | zero => exact absurd rfl hij
      | succ j =>
        obtain ⟨p2, o, a1, b1, c1, d1, r1⟩ := base.own j lj (by simpa using h2)
        rw [c1] at d1
        cases d1
    | succ i =>
      obtain ⟨p2, o, a1, b1, c1, d1, r1⟩ := base.own i li (by simpa using h1)
      rw [c1] at d1
      cases d1
  · rw [List.length_cons, List.length_cons, base.len]
/-- an __init__'s body -/
theorem body_IX {N : List Str} {R : List D → ResI → Prop} {vs : List V} {H : Hp} {Q : VK} {E : XK} {t : XK → TS} (h : spIX K C R vs H Q E) (hn : ∀ ds d, R ds d → ds.length + 1 ≤ N.length)
    (hok : ∀ x ds fs (E : XK), R ds (.ok fs) → ∃ G, G[0]? = some (.own (.ins x C fs)) ∧ StD K (t E) (argsI N.length x C ds) (.nx G))
    (hex : ∀ x ds D (E : XK), R ds (.exc D) → StD K (t E) (argsI N.length x C ds) (.ex D E)) : t E { nx := fun _ H' => Q .non H', rt := Q } (start N vs) H := by
  obtain ⟨F, H1, x, dx, ws, ds, r, rfl, rfl, hx, hdx, hne, e, ra, hR, q⟩ := h
  cases r with
  | ok fs =>
    exact body_I (R := fun ds' fs' => ds' = ds ∧ fs' = fs) (t := t E) (E := E) ⟨F, H1, x, dx, ws, ds, fs, rfl, rfl, hx, hdx, hne, e, ra, ⟨rfl, rfl⟩, q⟩ (fun ds' d' hz => by rw [hz.1]; exact hn ds _ hR) fun x' ds' fs' hz => by
      rw [hz.1, hz.2]
      exact hok x' ds fs E hR
  | exc D =>
    obtain ⟨F, rest⟩ : ∃ F', F' = F := ⟨F, rfl⟩
    subst rest
    -- the same start as body_I's
    have hs := hex x ds D E hR
    have E1 := startI_en (K := K) (N := N) (C := C) hx hdx hne e ra (hn ds _ hR)
    exact hs E1 fun F' H' ro => q F' H' ro
end
end Cy
namespace Cy
open PySem PySem.Spec PyProof.Rows L2 Evl
/-! try: e / except C as n: m = n -/
/-- the expression raises C -/
structure RsD (K : PySem.W.Frag) (te : (L2.St → XK) → TE) (G : List Sl) (C : Addr) : Prop where
  run : ∀ {H0 F0 F H : Hp} {σ : L2.St}, En K H0 F0 F H σ G → ∀ (E : L2.St → XK) (Q : VK), (∀ F' H', En K H0 F0 F' H' σ G → Ex F F' → Ex H H' → Nw F F' H → E σ (.ref C) none H') → te E σ H Q
def tTry (K : PySem.W.Frag) (c : Value) (i m : Nat) (te : (L2.St → XK) → TE) : TS := fun D σ H => tDrop (te (WE (wKept K c i (fun _ _ _ => tAsg (tVar i) (gName m)) (fun _ _ _ _ => False) D))) D σ H
section
variable {K : PySem.W.Frag} {G G1 G2 : List Sl} {ta tr : TA} {to : TE} {ds : List D} {d : D} {C C' : Addr}
theorem rs_call {R : List D → Res → Prop} (h : EvS K ta G ds) (hR : R ds (.exc C)) : RsD K (fun E => tCallS (spX K R) E ta) G C := .mk fun {H0 F0 F H σ} En E Q q =>
  h En _ fun vs F1 H1 E1 f1 g1 n1 r1 => ⟨F1, ds, .exc C, E1.ef, r1, hR, fun F2 H2 ro => q F2 H2 (E1.grow ro.e1 ro.e0 ro.ef ro.nf) (f1.trans ro.e1) (g1.trans ro.e0) (n1.trans ro.nf g1)⟩
theorem ev_callS {R : List D → Res → Prop} {E : L2.St → XK} (h : EvS K ta G ds) (hR : R ds (.ok d)) : EvD K (tCallS (spX K R) E ta) G d := .mk fun {H0 F0 F H σ} En Q q =>
  h En _ fun vs F1 H1 E1 f1 g1 n1 r1 => ⟨F1, ds, .ok d, E1.ef, r1, hR, fun v F2 H2 ro r2 => q v F2 H2 (E1.grow ro.e1 ro.e0 ro.ef ro.nf) (f1.trans ro.e1) (g1.trans ro.e0) (n1.trans ro.nf g1) r2⟩
theorem rs_make {R : List D → ResI → Prop} (h : EvS K ta G ds) (hR : R ds (.exc C)) : RsD K (fun E => tMakeS C' (spIX K C' R) E ta) G C := .mk fun {H0 F0 F H σ} En E Q q =>
  h En _ fun vs F1 H1 E1 f1 g1 n1 r1 => fun x dx hx hdx hne =>
    ⟨F1, H1, x, dx, vs ++ [], ds, .exc C, rfl, rfl, hx, hdx, hne, E1.ef, by rw [List.append_nil]; exact r1, hR, fun F2 H2 ro => q F2 H2 (E1.grow ro.e1 ro.e0 ro.ef ro.nf) (f1.trans ro.e1) (g1.trans ro.e0) (n1.trans ro.nf g1)⟩
theorem ev_makeS {R : List D → ResI → Prop} {fs : List (Str × D)} {E : L2.St → XK} (h : EvS K ta G ds) (hR : R ds (.ok fs)) : EvD K (tMakeS C' (spIX K C' R) E ta) G (.obj C' fs) := .mk fun {H0 F0 F H σ} En Q q =>
  h En _ fun vs F1 H1 E1 f1 g1 n1 r1 => fun x dx hx hdx hne => by
    refine ⟨F1, H1, x, dx, vs ++ [], ds, .ok fs, rfl, rfl, hx, hdx, hne, E1.ef, by rw [List.append_nil]; exact r1, hR, fun gs dx' F' H' ro hF hH hn hr => ⟨rfl, ?_⟩⟩
    have ef : Ex F' (upd F' x (.ins C' dx' gs)) := Ex.new hF
    have nw : Nw F1 (upd F' x (.ins C' dx' gs)) H1 := nw_upd hx ro.nf
    refine q (.ref x) (upd F' x (.ins C' dx' gs)) H' (E1.grow (ro.e1.trans ef) ro.e0 (fun z o y => ?_) nw) ((f1.trans ro.e1).trans ef) (g1.trans ro.e0) (n1.trans nw g1) (.obj upd_same hn (hr.mono ef))
    by_cases hz : z = x
    · subst hz
      rw [upd_same] at y
      cases y
      exact hH
    · rw [upd_ne hz] at y
      exact ro.ef z o y
/-- nothing is raised -/
theorem st_try_ok {te : (L2.St → XK) → TE} {c : Value} {i m : Nat} (h : ∀ E, EvD K (te E) G d) : StD K (tTry K c i m te) G (.nx G) := .mk fun {H0 F0 F H σ E} En p =>
  (h _) En _ fun v F1 H1 E1 f1 g1 n1 r1 => p σ F1 H1 E1 f1
/-- it is caught, and kept -/
theorem st_try_exc {te : (L2.St → XK) → TE} {c : Value} {i m : Nat} (him : i ≠ m) (h : RsD K te G C) (hc : PySem.W.exmOne K (.ref C) c = some true) (hi : i < G.length) : StD K (tTry K c i m te) G (.nx ((G.set m (.dat (.exc C))).set i .no)) := .mk fun {H0 F0 F H σ E} En p =>
  h.run En _ _ fun F1 H1 E1 f1 g1 n1 => by
    refine ⟨true, hc, fun _ a ha => ?_, fun q => nomatch q⟩
    have hl : i < σ.length := by
      rw [E1.len]
      exact hi
    refine ⟨.ref a, List.getElem?_set_self hl, ?_⟩
    have hF : F1 a = none := ex_none E1.ef ha
    have ef : Ex F1 (upd F1 a (ExK (.ref C) none a)) := Ex.new hF
    have E2 := E1.grow ef (Ex.new ha) (ex_upd_both E1.ef) (nw_upd ha (Nw.refl F1 H1))
    have E3 := (E2.setD (v := .ref a) (d := .exc C) (.exc upd_same) m).setN i
    have e : ((σ.set i (some (.ref a))).set m (some (.ref a))).set i none = (σ.set m (some (.ref a))).set i none := by
      rw [List.set_comm _ _ him, List.set_set]
    show E.nx (((σ.set i (some (.ref a))).set m (some (.ref a))).set i none) (upd H1 a (ExK (.ref C) none a))
    rw [e]
    exact p _ _ _ E3 (f1.trans ef)
/-- isinstance(e, T) of what was kept -/
def gIsi (K : PySem.W.Frag) := orC (rIsK K) (rIsi K)
theorem call_gIsi {X : Cx} : CallR X (.builtin "isinstance") (gIsi X.K) := call_isK.or call_isi
theorem e_isK {D' : Addr} {cv : Value} {v : V} {b : Bool} (h : EvD K to G (.exc C)) (hx : ExcC K C) (hv : ∀ u, RelV v u → u = cv) (hk : PySem.W.kitOne K (.ref C) cv = some b) : EvD K (tCB (gIsi K) (tCons to (tCons (tC v) tNil))) G (.bl b) := .mk fun {H0 F0 F H σ} E Q q =>
  h E _ fun u F1 H1 E1 f1 g1 n1 r1 => by
    cases r1 with
    | exc ha =>
      refine Or.inl ⟨_, C, v, cv, b, rfl, E1.ef _ _ ha, hx, hv, hk, ?_⟩
      exact q _ F1 H1 E1 f1 g1 n1 (.bl b)
end
/-- the rule: the body is one expression -/
theorem ps_tryE {X : Cx} {x n : Str} {c : Value} {i m : Nat} {e : Expr} {b₀ : Stmt} {np pos pos' epos : Pos} {te : (L2.St → XK) → TE} (hs : X.stack = X.env :: X.outer) (hf : X.env.frame = some X.env.locals) (hN : X.N.Nodup) (hi : X.N[i]? = some n) (hln : X.env.kindOf n = some .local) (hc : Names X x c) (hcell : X.env.cells = []) (hex : X.ex = [])
    (hb : ∀ (W : WX) (pn : List (Addr × Obj)) (xe : Value → Shared → Prop), Takes (X.tr pn xe) W → PS (X.tr pn xe) (.Expr e epos) (tDrop (te (WE W))))
    (hsu : ∀ (a : Addr) (pn : List (Addr × Obj)), PS (X.suite a pn) b₀ (tAsg (tVar i) (gName m))) :
    PS X (.Try [.Expr e epos] [.ExceptHandler (some (.Name x np)) (some n) [b₀] pos'] [] [] pos) (tTry X.K c i m te) :=
  ps_try_kept (tb := fun W => tDrop (te (WE W))) (ts := fun _ _ _ => tAsg (tVar i) (gName m)) hs hf hN hi hln hc takes0 hcell hex (fun W pn xe tk _ => pss_one (hb W pn xe tk)) fun a oe cls d pn _ _ => pss_one (hsu a _)
end Cy
namespace Cy
open PySem PySem.Spec PyProof.Rows L2
/-! isinstance's answer for classes of the text -/
theorem kit_self {K : PySem.W.Frag} {t : Value} : PySem.W.kitOne K t t = some true := if_pos (beq_self_eq_true t)
theorem kit_ref {K : PySem.W.Frag} {t : Value} {C : Addr} {b : Bool} (h1 : PySem.W.hasDictIn K C = true) (ht : PySem.W.typeIn K (.ref C) = some (.type "type")) (hs : PySem.W.subIn K t (.ref C) = some b) (hd : (t == .ref C) = false) : PySem.W.kitOne K t (.ref C) = some b := by
  obtain ⟨cd, hc, _⟩ := PySem.W.any_some h1
  have e : ((PySem.W.clsIn K C).isSome && PySem.W.typeIn K (.ref C) == some (.type "type")) = true := by rw [hc, ht] <;> rfl
  show (if (t == .ref C) = true then some true else if ((PySem.W.clsIn K C).isSome && PySem.W.typeIn K (.ref C) == some (.type "type")) = true then PySem.W.subIn K t (.ref C) else none) = some b
  rw [hd, if_neg Bool.false_ne_true, if_pos e]
  exact hs
theorem kit_typ {K : PySem.W.Frag} {C : Addr} {T : String} {b : Bool} (hm : PySem.W.kitMeta T = true) (hs : PySem.W.subIn K (.ref C) (.type T) = some b) : PySem.W.kitOne K (.ref C) (.type T) = some b := by
  have hd : (Value.ref C == Value.type T) = false := rfl
  show (if (Value.ref C == Value.type T) = true then some true else if PySem.W.kitMeta T = true then PySem.W.subIn K (.ref C) (.type T) else none) = some b
  rw [hd, if_neg Bool.false_ne_true, if_pos hm]
  exact hs
end Cy

set_option Elab.async false
set_option linter.all false
set_option maxRecDepth 100000
set_option maxHeartbeats 2000000
namespace Cy
open PySem PySem.Spec PyProof.Rows L2 Evl
/-! a def's promise where nothing around it is being shown (no guard stands): what repr of lists, tuples, dicts wants -/
def Calm (k : Nat) (A : Around) : Prop := Room k A ∧ A.guards = some []
structure FnG (P : Program) (w : World) (K : PySem.W.Frag) (mg : Str → Option Value) (base : Heap) (CX : CXT) (k : Nat) (f : Addr) (fd : FuncData) (ps : List Str) (sp : Sp) : Prop where
  len : ∀ vs H Q E, sp vs H Q E → vs.length = ps.length
  run : ∀ (A : Around) (outer : List Env) (s : Shared) (H : Hp) (args : Args) (us : List Value) (vs : List V) (Q : VK) (E : XK), Calm k A → Env0 P w K mg base A outer s H → BindsTo s fd args (ps.zip us) → Vals vs us → sp vs H Q E →
    codeAny (model P w) A (.call (.ref f) args) (CR CX outer P w H s Q E) s
/-- what is promised anywhere is promised there -/
theorem FnG.of {P : Program} {w : World} {K : PySem.W.Frag} {mg : Str → Option Value} {base : Heap} {CX : CXT} {k : Nat} {f : Addr} {fd : FuncData} {ps : List Str} {sp : Sp} (F : FnOk P w K mg base CX k f fd ps sp) : FnG P w K mg base CX k f fd ps sp :=
  ⟨F.len, fun A outer s H args us vs Q E c => F.run A outer s H args us vs Q E c.1⟩
/-- a def of the text, by its body's reading -/
theorem fnG_of {CX : CXT} {P : Program} {w : World} {K : PySem.W.Frag} {mg : Str → Option Value} {base : Heap} {k : Nat} {x qual : Str} {st : Stmt} {f : Addr} {fd : FuncData} {N ps : List Str} {sp : Sp} (F : Fun K x qual st f fd) (S : FnScope N ps (defScope st)) (len : ∀ vs H Q E, sp vs H Q E → vs.length = ps.length)
    (hbody : ∀ (cdv : Value) (A : Around) (outer : List Env) (s : Shared) (H : Hp) (vs : List V) (Q : VK) (E : XK), Calm k (A.deeper (envOfC qual (defScope st) s.heap.objs.size f cdv)) → sp vs H Q E →
      ∃ t, PSs (cxOf CX P w K mg base N qual (defScope st) f cdv A outer s H E) (defBody st) t ∧ t { nx := fun _ H' => Q .non H', rt := Q } (start N vs) H) : FnG P w K mg base CX (k + 1) f fd ps sp := by
  obtain ⟨oc, od, kV, doc, pm, an, cdv, ct, osl, rfl, lk, hcd⟩ := F.ex
  refine ⟨len, fun A outer s H args us vs Q E hr e0 hb r hsp => ?_⟩
  have grows : ∀ b o, base.get? b = some o → s.heap.get? b = some o := fun b o e => (e0.bs b o e).1
  have KX : K.In s.heap := e0.mod.kin.keeps grows
  refine codeAny_call_function hr.1.depth (KX _ _ lk) rfl S.co S.gen rfl (PySem.W.codeRec_of KX hcd) (hb _ _ _ _ (wpAny_newFunctionEnv_cells S.kind (fun y hy => ?_) fun env he s1 x => ?_))
  · rcases S.par y.1 (List.of_mem_zip (show (y.1, y.2) ∈ ps.zip us from hy)).1 with q | q
    · exact .inl q
    · exact .inr ⟨q, PySem.W.cellsFrom_some _ _ _ (.inl q)⟩
  subst he
  refine ⟨(e0.mod.nolimit.keeps grows).keeps x.toInCall.keep, codeAny_func ?_⟩
  obtain ⟨t, ht, hq⟩ := hbody cdv A outer s H vs Q E ⟨hr.1.deeper _, hr.2⟩ hsp
  have done : ∀ {σ' : L2.St} {H' : Hp} {v : V} {u : Value} {s' : Shared}, Inv (cxOf CX P w K mg base N qual (defScope st) f cdv A outer s H E) [] σ' H' s' → RelV v u → Q v H' → CE outer P w H s Q u s' := fun {σ' H' v u s'} J rv q => ⟨v, H', J.os, J.bare, J.base, J.hok, rv, q⟩
  refine wpAny_mono (ht.run [] s1 (start N vs) H _ (inv_start S hr.1.hd e0 (len _ _ _ _ hsp) r x) hq) (fun fl s' hs => ?_) fun e s' hs => hs
  cases fl with
  | ret u =>
    obtain ⟨v, σ', H', J, rv, q⟩ := hs
    exact done J rv q
  | next =>
    obtain ⟨σ', H', J, q⟩ := hs
    exact done (v := V.non) (u := Value.none) J rfl q
  | brk =>
    obtain ⟨_, _, _, q⟩ := hs
    exact q.elim
  | cont =>
    obtain ⟨_, _, _, q⟩ := hs
    exact q.elim
/-- a call of such a def -/
theorem pe_callG {X : Cx} {CX : CXT} {k : Nat} {f : Addr} {fd : FuncData} {ps : List Str} {sp : Sp} {E : XK} {x : Str} {p pos : Pos} {e : Expr} {es : List Expr} {t : TA} (F : FnG X.prog X.w X.K X.mg X.base CX k f fd ps sp) (hr : Calm k X.A) (hg : Gl X x) (hm : X.mg x = some (.ref f)) (hk : PySem.W.keepIn X.K (.ref f) = true) (hb : Binds X.K fd ps [])
    (hx : Passes CX X E) (ha : PA X (e :: es) t) (hdb : (x == ("__debug__" : Str)) = false := by decide) (he : starEach (e :: es) X.env = (false, eval e X.env) :: starEach es X.env := by rfl) (hpl : (backTo pos (starEach es X.env)).any (·.1) = false := by rfl) :
    PE X (.Call (.Name x p) (e :: es) [] pos) (tCall sp [] E t) := by
  refine ⟨fun pins s σ H Q I h => wpAny_Call_Name_kw (ld_glob I hg hm ?_ hdb)⟩
  refine PySem.W.callWith_K (h₀ := X.base) I.ok.mod.kin hk (thn (ha.run pos pins s σ H _ I h) fun us s1 ⟨vs, H1, I1, r, q⟩ => ⟨I1.kIn, ?_⟩) he hpl
  have q : sp (vs ++ []) H1 Q E := q
  rw [List.append_nil] at q
  have b := hb s1 us I1.kIn (by rw [List.append_nil, ← r.length]; exact F.len _ _ _ _ q)
  rw [List.append_nil] at b
  refine wpAny_call (codeAny_mono (F.run X.A X.stack s1 H1 ⟨us, []⟩ us vs Q E hr I1.env0 b r q) fun fl s' hq => ?_)
  cases fl with
  | error u => exact hx pins σ H1 s1 u s' I1 hq
  | ok fl =>
    cases fl with
    | ret u => exact I1.after hq
    | next => exact False.elim hq
    | brk => exact False.elim hq
    | cont => exact False.elim hq

/-! the end: from the law's promise to the walk -/
/-- the abstract heap at the law's entry: the script alone, where the written part doesn't have it -/
def scriptH (K : PySem.W.Frag) (a : Addr) (o : Obj) (ns : List Int) : Hp := fun b => if b = a then (match K.lookup a with | none => some (.frz o (.lst (ns.map V.int))) | some _ => none) else none
theorem scriptH_ne {K : PySem.W.Frag} {a b : Addr} {o : Obj} {ns : List Int} (h : b ≠ a) : scriptH K a o ns b = none := if_neg h
theorem scriptH_some {K : PySem.W.Frag} {a b : Addr} {o : Obj} {ns : List Int} {u : HO} (h : scriptH K a o ns b = some u) : b = a ∧ u = .frz o (.lst (ns.map V.int)) ∧ K.lookup a = none := by
  by_cases e : b = a
  · subst e
    unfold scriptH at h
    rw [if_pos rfl] at h
    cases q : K.lookup b with
    | none =>
      rw [q] at h
      cases h
      exact ⟨rfl, rfl, rfl⟩
    | some o' =>
      rw [q] at h
      cases h
  · rw [scriptH_ne e] at h
    cases h
theorem law_callG {P : Program} {w : World} {K : PySem.W.Frag} {mg mb : Str → Option Value} {CX : CXT} {k : Nat} {fa a : Addr} {fd : FuncData} {x : Str} {sp : Sp} {s₁ : Shared} {vs : List Value} {ns : List Int}
    (KX : K.In s₁.heap) (hns : s₁.heap.Ns mainGlobals mg) (hb : s₁.heap.Ns builtinsNs mb) (hbb : ∀ x : Str, x ≠ "__name__" → mb x = bootBuiltins x) (hlim : s₁.heap.NoLimit) (hg : s₁.gens = #[])
    (ha : s₁.heap.get? a = some { cls := .type "list", data := .seq vs.toArray }) (hi : IntsAre vs ns) (hl : ns.length ≤ sizeLine) (hr : Room k callerA)
    (hmods : ∃ mm, s₁.heap.Ns sysModules mm) (F : ∀ base : Heap, K.In base → base.Ns mainGlobals mg → (∃ o, base.get? sysModules = some o) → FnG P w K mg base CX k fa fd [x] sp) (hbind : ∀ (s : Shared) (u : Value), BindsTo s fd ⟨[u], []⟩ [(x, u)])
    (hsp : ∀ H : Hp, SqL K H a (ns.map V.int) → sp [.ref a] H (fun v _ => v = .bl true) fun _ _ _ => False) (hCX : ∀ H e s', CX [] H s₁ (fun _ _ _ => False) e s' → False) :
    codeAny (model P w) callerA (.call (.ref fa) ⟨[.ref a], []⟩) (fun r s' => r = .ok (.ret (.bool true)) ∧ OldK s₁.heap s'.heap ∧ s'.os = s₁.os ∧ AllBare s'.gens) s₁ := by
  have rv := vals_ints hi
  have len : vs.length ≤ sizeLine := by
    rw [hi.length]
    exact hl
  generalize ho : ({ cls := .type "list", data := .seq vs.toArray } : Obj) = o at ha
  generalize hH : scriptH K a o ns = H
  have hs : ∀ {b u}, H b = some u → b = a ∧ u = .frz o (.lst (ns.map V.int)) ∧ K.lookup a = none := fun {b u} q => scriptH_some (by rw [hH]; exact q)
  -- the script, read
  have hS : SqL K H a (ns.map V.int) := by
    cases q : K.lookup a with
    | some o' =>
      have e := KX a o' q
      rw [ha] at e
      cases e
      subst ho
      exact .inr ⟨_, vs.toArray, _, q, rfl, rfl, rfl, by rw [List.size_toArray]; exact len, by simpa using rv⟩
    | none => exact .inl (.inr ⟨o, by rw [← hH]; unfold scriptH; rw [if_pos rfl, q]⟩)
  have hok : HOk P w H s₁.heap := fun b u q => by
    obtain ⟨rfl, rfl, _⟩ := hs q
    subst ho
    exact ⟨ha, by rw [List.length_map]; exact hl, vs, _, rv, ha⟩
  -- what the base has
  have stay : ∀ {b : Addr} {u : Obj}, s₁.heap.get? b = some u → H b = none → (hidT s₁.heap H).get? b = some u := fun e n => hidT_get e n
  have noDict : ∀ {b : Addr} {u : Obj} {es : Array DictEntry} {ep : Nat}, s₁.heap.get? b = some u → u.data = .dict es ep → H b = none := fun {b u es ep} e d => by
    cases q : H b with
    | none => rfl
    | some u' =>
      obtain ⟨rfl, _⟩ := hs q
      rw [ha] at e
      cases e
      subst ho
      cases d
  have nsT : ∀ {b : Addr} {m : Str → Option Value}, s₁.heap.Ns b m → (hidT s₁.heap H).Ns b m := fun {b m} ⟨u, es, ep, e, d, r⟩ => ⟨u, es, ep, stay e (noDict e d), d, r⟩
  have KT : K.In (hidT s₁.heap H) := fun b u e => stay (KX b u e) (by
    cases q : H b with
    | none => rfl
    | some u' =>
      obtain ⟨rfl, _, n⟩ := hs q
      rw [n] at e
      cases e)
  have M : Mod K mg (hidT s₁.heap H) := ⟨KT, nsT hns, ⟨mb, nsT hb, hbb⟩, let ⟨mc, h1, h2⟩ := hlim; ⟨mc, nsT h1, h2⟩⟩
  have e0 : Env0 P w K mg (hidT s₁.heap H) callerA [] s₁ H := ⟨rfl, M, fun b u e => of_hidT e, Nat.le_of_eq (hidT_size _ _), trivial, fun b z => (nomatch z), hok, .of_eq hg⟩
  refine codeAny_mono ((F _ KT (nsT hns) (let ⟨_, u, _, _, e, d, _⟩ := hmods; ⟨u, stay e (noDict e d)⟩)).run callerA [] s₁ H ⟨[.ref a], []⟩ [.ref a] [.ref a] _ _ ⟨hr, rfl⟩ e0 (hbind s₁ (.ref a)) (.cons rfl .nil) (hsp H hS)) fun r s' h => ?_
  cases r with
  | error e => exact (hCX H e s' h).elim
  | ok fl =>
    cases fl with
    | next => exact False.elim h
    | brk => exact False.elim h
    | cont => exact False.elim h
    | ret u =>
      obtain ⟨v, H', os, bare, un, hok', r', q⟩ := h
      have q' : v = .bl true := q
      subst q'
      obtain rfl : u = Value.bool true := r'
      refine ⟨rfl, OldK.of_keep fun b o' e => ?_, os, bare⟩
      cases q : H b with
      | none => exact un.keep b o' e q (fun z => nomatch z) (fun z => nomatch z)
      | some u' =>
        obtain ⟨rfl, rfl, _⟩ := hs q
        obtain ⟨e1, _⟩ := hok b _ q
        obtain ⟨e2, _⟩ := hok' b _ (un.frzs b o _ q)
        rw [e] at e1
        cases e1
        exact e2
theorem walkG {l : PySem.W.OpenLaw} {n k : Nat} {q : Program} {loose : List Str} {XP : (Str → Option Value) → Heap → Prop} {YP : World → Heap → Prop} {d : DefRec} {K : Params → PySem.W.Frag} {CX : World → CXT} {sp : World → Sp} {x : Str}
    (hn : l.most = some n) (hn2 : n ≤ sizeLine) (hdf : d.params.defaults = []) (hr : Room k callerA) (hq : importsNone q = true) (hY : ∀ (w : World) (h : Heap), YP w h → (K w.params).In h)
    (F : ∀ (w : World) (mg : Str → Option Value) (fa : Addr) (h : Heap), (K w.params).In h → h.Ns mainGlobals mg → mg d.name = some (.ref fa) →
      ∃ fd : FuncData, (∀ (s : Shared) (u : Value), BindsTo s fd ⟨[u], []⟩ [(x, u)]) ∧ ∀ base : Heap, (K w.params).In base → base.Ns mainGlobals mg → (∃ o, base.get? sysModules = some o) → FnG l.prog w (K w.params) mg base (CX w) k fa fd [x] (sp w))
    (hsp : ∀ (w : World) (H : Hp) (a : Addr) (ns : List Int), ns.length ≤ n → SqL (K w.params) H a (ns.map V.int) → sp w [.ref a] H (fun v _ => v = .bl true) fun _ _ _ => False)
    (hCX : ∀ (w : World) (H : Hp) (s : Shared) (e : Value) (s' : Shared), CX w [] H s (fun _ _ _ => False) e s' → False) : PySem.W.WalkO q loose XP YP l.row.toRowW d [] (fun f vs => PySem.call f vs) := by
  refine Att.attach_call hn hdf fun w s₀ s₁ mg mb fa o pm cd doc a vs ns G Y ho hd hcd hmg hobj hints hlen hg => ?_
  obtain ⟨fd, hb, hF⟩ := F w mg fa _ (hY w _ Y) G.T.g hmg
  exact law_callG (hY w _ Y) G.T.g G.T.b G.T.builtins G.T.nolimit hg hobj hints (Nat.le_trans hlen hn2) hr (let ⟨mm, h1, _⟩ := (G.T.seer hq).mods; ⟨mm, h1⟩) hF hb (fun H hS => hsp w H a ns hlen hS) fun H e s' => hCX w H s₁ e s'
end Cy

set_option Elab.async false
set_option linter.all false
set_option maxRecDepth 100000
set_option maxHeartbeats 2000000
namespace Cy
open PySem PySem.Spec PyProof.Rows L2 Evl
/-! repr of data -/
mutual
def toQ : D → PyData
  | .non => .none
  | .bl b => .bool b
  | .int i => .int i
  | .str s => .str s
  | .lst xs => .list (toQs xs)
  | .tup xs => .tuple (toQs xs)
  | .dic _ => .dict []
  | .obj _ _ => .none
  | .scr _ => .none
  | .exc _ => .none
def toQs : List D → List PyData
  | [] => []
  | x :: xs => toQ x :: toQs xs
end
mutual
def shOk : D → Bool
  | .lst xs => shOks xs
  | .tup xs => shOks xs
  | .dic es => es.isEmpty
  | .obj _ _ => false
  | .scr _ => false
  | .exc _ => false
  | _ => true
def shOks : List D → Bool
  | [] => true
  | x :: xs => shOk x && shOks xs
end
section
variable {X : Cx} {pins : List (Addr × Obj)} {σ : L2.St} {F H : Hp} {s : Shared}
mutual
theorem rp_reads (I : Inv X pins σ H s) (hsm : ∃ o, X.base.get? sysModules = some o) (e : Ex F H) : ∀ {d : D} {v : V} {u : Value}, Rp X.K F v d → RelV v u → shOk d = true → ∃ as, Reads s.heap u (toQ d) as ∧ sysModules ∉ as
  | .non, _, _, h, r, _ => by
    cases h
    cases r
    unfold toQ
    exact ⟨_, Reads.none, fun z => nomatch z⟩
  | .bl b, _, _, h, r, _ => by
    cases h
    cases r
    unfold toQ
    exact ⟨_, Reads.bool b, fun z => nomatch z⟩
  | .int i, _, _, h, r, _ => by
    cases h
    obtain ⟨t, rfl⟩ := r
    unfold toQ
    exact ⟨_, Reads.int i t, fun z => nomatch z⟩
  | .str x, _, _, h, r, _ => by
    cases h
    obtain ⟨t, rfl⟩ := r
    unfold toQ
    exact ⟨_, Reads.str x t, fun z => nomatch z⟩
  | .lst ds, _, _, h, r, q => by
    cases h with
    | lst ha rs =>
      cases r
      obtain ⟨its, rv, ⟨o, n, ho, hc, _, hd⟩, _⟩ := I.list (sq_of (e _ _ ha))
      obtain ⟨as, hr, hn⟩ := rpa_reads I hsm e rs rv (by unfold shOk at q; exact q)
      unfold toQ
      refine ⟨_, Reads.list ho hc hd hr, fun z => ?_⟩
      rcases List.mem_cons.mp z with z | z
      · obtain ⟨ob, eb⟩ := hsm
        have := (I.bs _ ob eb).2
        rw [z, e _ _ ha] at this
        cases this
      · exact hn z
  | .tup ds, _, _, h, r, q => by
    cases h with
    | tup ha rs =>
      cases r
      obtain ⟨its, rv, ⟨o, ho, hc, n, hd⟩, _⟩ := I.tuple (st_of (e _ _ ha))
      obtain ⟨as, hr, hn⟩ := rpa_reads I hsm e rs rv (by unfold shOk at q; exact q)
      unfold toQ
      exact ⟨_, Reads.tuple ho hc hd hr, hn⟩
  | .dic es, _, _, h, r, q => by
    cases h with
    | dic ha r1 r2 =>
      cases r
      unfold shOk at q
      cases es with
      | cons p es => cases q
      | nil =>
        rename_i a kvs
        have hk : kvs = [] := by
          cases kvs with
          | nil => rfl
          | cons p kvs => cases r1
        subst hk
        obtain ⟨_, hs, vs, hkv, o, es', ep, ho, hx, hd, _, hp, _⟩ := I.hok _ _ (e _ _ ha)
        cases hkv
        have he : es'.toList = [] := by
          cases hq : es'.toList with
          | nil => rfl
          | cons p ps =>
            rw [hq] at hp
            cases hp
        unfold toQ
        refine ⟨_, Reads.dict (kvs := []) (as := []) (bs := []) ho hx.1 hd ?_ ?_, fun z => ?_⟩
        · rw [he]
          exact .nil
        · rw [he]
          exact .nil
        · rcases List.mem_cons.mp z with z | z
          · rw [← z] at hs
            cases hs
          · cases z
  | .obj _ _, _, _, _, _, q => by unfold shOk at q; cases q
  | .scr _, _, _, _, _, q => by unfold shOk at q; cases q
  | .exc _, _, _, _, _, q => by unfold shOk at q; cases q
theorem rpa_reads (I : Inv X pins σ H s) (hsm : ∃ o, X.base.get? sysModules = some o) (e : Ex F H) : ∀ {ds : List D} {vs : List V} {us : List Value}, RpA X.K F vs ds → Vals vs us → shOks ds = true → ∃ as, ReadsAll s.heap us (toQs ds) as ∧ sysModules ∉ as
  | [], _, _, h, r, _ => by
    cases h
    cases r
    unfold toQs
    exact ⟨_, ReadsAll.nil, fun z => nomatch z⟩
  | d :: ds, _, _, h, r, q => by
    cases h with
    | cons h1 h2 =>
      cases r with
      | cons r1 r2 =>
        unfold shOks at q
        rw [Bool.and_eq_true] at q
        obtain ⟨as, q1, n1⟩ := rp_reads I hsm e h1 r1 q.1
        obtain ⟨bs, q2, n2⟩ := rpa_reads I hsm e h2 r2 q.2
        unfold toQs
        exact ⟨_, ReadsAll.cons q1 q2, fun z => (List.mem_append.mp z).elim n1 n2⟩
end
end
/-- repr(x), x a list, a tuple or an empty dict -/
def rReprD (K : PySem.W.Frag) : List V → Hp → VK → Prop := fun xs H Q => ∃ (F : Hp) (a : Addr) (d : D), xs = [.ref a] ∧ Ex F H ∧ Rp K F (.ref a) d ∧ shOk d = true ∧ PyData.showable (toQ d) = true ∧ (toQ d).depth ≤ 60 ∧ (toQ d).shown.length ≤ sizeLine ∧ Q (.str (toQ d).shown) H
theorem call_reprD {X : Cx} (hg : X.A.guards = some []) (hu : X.A.units + 64 < cLine) (hsm : ∃ o, X.base.get? sysModules = some o) : CallR X (.builtin "repr") (rReprD X.K) := by
  intro pins s σ H xs us Q I r h
  obtain ⟨F, a, d, rfl, e, hr, hs, hw, hd, hz, q⟩ := h
  cases r with
  | cons rx rr =>
    cases rr
    cases rx
    obtain ⟨as, R, n⟩ := rp_reads I hsm e hr rfl hs
    exact repr_of_reads' R hw (fun _ => n) hg (by omega) (fun _ _ z => z) (fun h' u tk k => ⟨.str _, H, I.kept (t' := tk) k, ⟨_, rfl⟩, q⟩) hz
def gReprA (K : PySem.W.Frag) := orC gRepr (rReprD K)
theorem call_gReprA {X : Cx} (hg : X.A.guards = some []) (hu : X.A.units + 64 < cLine) (hsm : ∃ o, X.base.get? sysModules = some o) : CallR X (.builtin "repr") (gReprA X.K) := call_gRepr.or (call_reprD hg hu hsm)
theorem n_reprD {K : PySem.W.Frag} {d : D} (hr : ∀ {F : Hp} {v : V}, Rp K F v d → ∃ a, v = .ref a) (hs : shOk d = true) (hw : PyData.showable (toQ d) = true) (hd : (toQ d).depth ≤ 60) (hz : (toQ d).shown.length ≤ sizeLine) : OpN K (gReprA K) [d] (.str (toQ d).shown) := opn_r (op1_v fun {F H vs} e r => by
  obtain ⟨v, rfl, r1⟩ := rpa1 r
  obtain ⟨a, rfl⟩ := hr r1
  exact ⟨.str _, .str _, fun Q q => ⟨F, a, d, rfl, e, r1, hs, hw, hd, hz, q⟩⟩)
end Cy

set_option Elab.async false
set_option linter.all false
set_option maxRecDepth 100000
set_option maxHeartbeats 2000000
namespace Cy
open PySem L2 Evl
section
variable {K : PySem.W.Frag} {G : List Sl} {ta tb te : TE} {l m : List D}
theorem rpa_rep {F : Hp} {vs : List V} {ds : List D} (r : RpA K F vs ds) : ∀ n : Nat, RpA K F (List.replicate n vs).flatten (List.replicate n ds).flatten
  | 0 => .nil
  | n + 1 => by
    rw [List.replicate_succ, List.replicate_succ, List.flatten_cons, List.flatten_cons]
    exact r.app (rpa_rep r n)
/-- xs * n -/
theorem d_repL {n : Int} (h : 0 ≤ n ∧ n < 1000000) (hz : l.length * n.toNat ≤ 100000) : Op2O K gMul (.lst l) (.int n) (List.replicate n.toNat l).flatten := .mk fun {F H x y} e r1 r2 Q q => by
  cases r1 with
  | lst h1 s1 =>
    cases r2
    exact Or.inr ⟨_, n, _, rfl, rfl, e _ _ h1, by omega, by omega, sz_of (by rw [s1.length]; exact hz), fun p hp => q p _ _ (Ex.new hp) hp upd_same (rpa_rep s1 n.toNat)⟩
/-- [w] * int(b) -/
def wordIf (w : Str) (b : Bool) : List D := if b then [.str w] else []
theorem e_word {w : Str} {b : Bool} (h : EvD K te G (.bl b)) : EvD K (tOp gMul (tLst (tCons (tC (.str w)) tNil)) (tCB gInt (tCons te tNil))) G (.lst (wordIf w b)) := by
  refine e_is (e_share (o_op (e_share (o_lst (ds := [.str w]) (s_cons e_str s_nil) (by show 1 ≤ 100000; decide))) (e_cb (s_cons h s_nil) n_intB) (d_repL ?_ ?_))) ?_
  · cases b <;> decide
  · cases b
    · show 1 * 0 ≤ 100000
      decide
    · show 1 * 1 ≤ 100000
      decide
  · cases b <;> rfl
theorem e_cat (h1 : EvD K ta G (.lst l)) (h2 : EvD K tb G (.lst m)) (hz : l.length + m.length ≤ 100000) : EvD K (tOp (gAdd K) ta tb) G (.lst (l ++ m)) := e_share (o_op h1 h2 (d_catL hz))
/-- two words that don't come -/
theorem e_none2 {i : Nat} {t1 t2 : TE} {w1 w2 : Str} (h : G[i]? = some (.dat (.lst l))) (h1 : EvD K t1 G (.bl false)) (h2 : EvD K t2 G (.bl false)) (hz : l.length ≤ 1000) :
    EvD K (tOp (gAdd K) (tOp (gAdd K) (tVar i) (tOp gMul (tLst (tCons (tC (.str w1)) tNil)) (tCB gInt (tCons t1 tNil)))) (tOp gMul (tLst (tCons (tC (.str w2)) tNil)) (tCB gInt (tCons t2 tNil)))) G (.lst l) := by
  have a := e_cat (e_cat (e_var h) (e_word (w := w1) h1) (by show l.length + 0 ≤ 100000; omega)) (e_word (w := w2) h2) (by
    show (l ++ []).length + 0 ≤ 100000
    rw [List.append_nil]
    omega)
  refine e_is a ?_
  show D.lst ((l ++ []) ++ []) = _
  rw [List.append_nil, List.append_nil]
/-- the first of two comes, the other doesn't -/
theorem e_one2 {i : Nat} {t1 t2 : TE} {w1 w2 : Str} (h : G[i]? = some (.dat (.lst l))) (h1 : EvD K t1 G (.bl true)) (h2 : EvD K t2 G (.bl false)) (hz : l.length ≤ 1000) :
    EvD K (tOp (gAdd K) (tOp (gAdd K) (tVar i) (tOp gMul (tLst (tCons (tC (.str w1)) tNil)) (tCB gInt (tCons t1 tNil)))) (tOp gMul (tLst (tCons (tC (.str w2)) tNil)) (tCB gInt (tCons t2 tNil)))) G (.lst (l ++ [.str w1])) := by
  have a := e_cat (e_cat (e_var h) (e_word (w := w1) h1) (by show l.length + 1 ≤ 100000; omega)) (e_word (w := w2) h2) (by
    show (l ++ [_]).length + 0 ≤ 100000
    rw [List.length_append]
    show l.length + 1 + 0 ≤ 100000
    omega)
  refine e_is a ?_
  show D.lst ((l ++ [.str w1]) ++ []) = _
  rw [List.append_nil]
theorem relv_ref {a : Addr} : ∀ u, RelV (.ref a) u → u = .ref a := fun u h => by
  cases h
  rfl
theorem relv_ty {T : String} : ∀ u, RelV (.ty T) u → u = .type T := fun u h => by
  cases h
  rfl
/-- isinstance(e, X), e kept in slot 0 -/
theorem e_kind {i : Nat} {C X : Addr} {b : Bool} (h : G[i]? = some (.dat (.exc C))) (hx : ExcC K C) (hk : PySem.W.kitOne K (.ref C) (.ref X) = some b) : EvD K (tCB (gIsi K) (tCons (tVar i) (tCons (tC (.ref X)) tNil))) G (.bl b) := e_isK (D' := X) (e_var h) hx relv_ref hk
theorem e_kindT {i : Nat} {C : Addr} {T : String} {b : Bool} (h : G[i]? = some (.dat (.exc C))) (hx : ExcC K C) (hk : PySem.W.kitOne K (.ref C) (.type T) = some b) : EvD K (tCB (gIsi K) (tCons (tVar i) (tCons (tC (.ty T)) tNil))) G (.bl b) := e_isK (D' := C) (e_var h) hx relv_ty hk
end
end Cy

set_option Elab.async false
set_option linter.all false
set_option maxRecDepth 100000
set_option maxHeartbeats 2000000
namespace Cy
open PySem PySem.Spec PyProof.Rows L2 Evl
/-! o.m(..) that may raise, at the slots where it stands -/
section
variable {X : Cx} {CX : CXT} {k : Nat} {f C : Addr} {fd : FuncData} {ps : List Str} {sp : Sp} {E : L2.St → XK} {m : Str} {pos apos : Pos} {o e : Expr} {es : List Expr} {ta : TE} {t : TA}
def tMethE (C : Addr) (m : Str) (sp : Sp) (E : L2.St → XK) (ta : TE) (t : TA) : TE := fun σ H Q => tMeth C m sp [] (E σ) ta t σ H Q
theorem pe_methE {pl : Sem Bool} (he : PE X o ta) (c : Cls X.K C) (hm : Meth X.K C m f) (F : FnOk X.prog X.w X.K X.mg X.base CX k f fd ps sp) (hr : Room k X.A) (hb : Binds X.K fd ps []) (hx : ∀ σ, PassesAt CX X σ (E σ)) (ha : PA X (e :: es) t)
    (hst : starEach (e :: es) X.env = (false, eval e X.env) :: starEach es X.env := by rfl) (hpl : (backTo pos (starEach es X.env)).any (·.1) = false := by rfl)
    (ht : eval (.Call (.Attribute o m apos) (e :: es) [] pos) X.env = (do
      let ov ← eval o X.env
      standAt apos.atName
      let (f, first) ← holding [ov] (getMethod ov m pl)
      callWith pos f first (backTo pos (starEach (e :: es) X.env)) (backToKw pos (keywordEach [] X.env))) := by rfl) :
    PE X (.Call (.Attribute o m apos) (e :: es) [] pos) (tMethE C m sp E ta t) := by
  refine ⟨fun pins s σ H Q I h => PySem.W.methodCall_KW (pl := pl) (thn (he.run pins s σ H _ I h) fun u s1 ⟨x, H1, I1, rx, a, dx, fs, ex, ea, l, q⟩ => ?_) ht⟩
  subst ex
  obtain rfl : u = Value.ref a := rx
  refine getmeth_ok I1 ea c hm l (PySem.W.callWith_K (first := [.ref a]) (h₀ := X.base) I.ok.mod.kin hm.kp (thn (ha.run pos pins s1 σ H1 _ I1 q) fun us s2 ⟨vs, H2, I2, r, q2⟩ => ⟨I2.kIn, ?_⟩) hst hpl)
  have q3 : sp (.ref a :: (vs ++ [])) H2 Q (E σ) := q2
  rw [List.append_nil] at q3
  exact run_fnS (us := .ref a :: us) (vs := .ref a :: vs) F hr hb (hx σ) I2 (.cons rfl r) q3
end
section
variable {K : PySem.W.Frag} {G : List Sl} {to : TE} {tr : TA} {ds : List D} {d : D} {C C' : Addr} {m : Str} {fs : List (Str × D)}
theorem rs_meth {R : List D → Res → Prop} (h : EvD K to G (.obj C' fs)) (hm : fs.lookup m = none) (hr : EvS K tr G ds) (hR : R (.obj C' fs :: ds) (.exc C)) : RsD K (fun E => tMethE C' m (spX K R) E to tr) G C := .mk fun {H0 F0 F H σ} En E Q q =>
  h En _ fun v F1 H1 E1 f1 g1 n1 r1 => by
    have r1' := r1
    cases r1' with
    | obj h1 h2 h3 =>
      refine ⟨_, _, _, rfl, E1.ef _ _ h1, lookup_none h2 hm, hr E1 _ fun vs F2 H2 E2 f2 g2 n2 r2 => ?_⟩
      refine ⟨F2, .obj C' fs :: ds, .exc C, E2.ef, by rw [List.append_nil]; exact .cons (r1.mono f2) r2, hR, fun F3 H3 ro => ?_⟩
      exact q F3 H3 (E2.grow ro.e1 ro.e0 ro.ef ro.nf) ((f1.trans f2).trans ro.e1) ((g1.trans g2).trans ro.e0) ((n1.trans n2 g1).trans ro.nf (g1.trans g2))
theorem ev_methE {R : List D → Res → Prop} {E : L2.St → XK} (h : EvD K to G (.obj C' fs)) (hm : fs.lookup m = none) (hr : EvS K tr G ds) (hR : R (.obj C' fs :: ds) (.ok d)) : EvD K (tMethE C' m (spX K R) E to tr) G d := .mk fun {H0 F0 F H σ} En Q q =>
  h En _ fun v F1 H1 E1 f1 g1 n1 r1 => by
    have r1' := r1
    cases r1' with
    | obj h1 h2 h3 =>
      refine ⟨_, _, _, rfl, E1.ef _ _ h1, lookup_none h2 hm, hr E1 _ fun vs F2 H2 E2 f2 g2 n2 r2 => ?_⟩
      refine ⟨F2, .obj C' fs :: ds, .ok d, E2.ef, by rw [List.append_nil]; exact .cons (r1.mono f2) r2, hR, fun w F3 H3 ro r3 => ?_⟩
      exact q w F3 H3 (E2.grow ro.e1 ro.e0 ro.ef ro.nf) ((f1.trans f2).trans ro.e1) ((g1.trans g2).trans ro.e0) ((n1.trans n2 g1).trans ro.nf (g1.trans g2)) r3
/-- the same where nothing is caught: a method that may raise, which hands something back -/
theorem e_methX {R : List D → Res → Prop} {X : XK} (h : EvD K to G (.obj C' fs)) (hm : fs.lookup m = none) (hr : EvS K tr G ds) (hR : R (.obj C' fs :: ds) (.ok d)) : EvD K (tMeth C' m (spX K R) [] X to tr) G d := ev_methE (E := fun _ => X) h hm hr hR
end
end Cy
namespace Cy
open PySem PySem.Spec PyProof.Rows L2 Evl
theorem Calm.mono {j k : Nat} {A : Around} (c : Calm k A) (h : j ≤ k) : Calm j A := ⟨c.1.mono h, c.2⟩
end Cy

set_option Elab.async false
set_option linter.all false
set_option maxRecDepth 100000
set_option maxHeartbeats 4000000
namespace L02
open PySem L2 Evl Cy TL
/-! the kinds of things -/
def amongI : D → Int → Int → Bool
  | .int i, a, b => decide (a ≤ i) && decide (i ≤ b)
  | _, _, _ => false
theorem among_yes {i a b : Int} (h : a ≤ i ∧ i ≤ b) : amongI (.int i) a b = true := by
  show (decide (a ≤ i) && decide (i ≤ b)) = true
  rw [decide_eq_true h.1, decide_eq_true h.2]
  rfl
theorem sh_no {d : D} (h : shOk d = true) : noObj d = true := by
  cases d <;> first | rfl | (unfold shOk at h; cases h)
def isCr : D → Bool
  | .tup [a, b] => amongI a 1 1000000000 && amongI b 1 1000
  | _ => false
def fits : D → D → Nat → Bool
  | .int e, .int r, n => decide (((n : Int) - 1) * r ≤ e)
  | _, _, _ => false
def isRl (e r c : D) : Bool := (amongI e 1 1000000000000 && amongI r 1 1000000) && match c with
  | .lst cs => (decide (1 ≤ cs.length) && decide (cs.length ≤ 6)) && (cs.all isCr && fits e r cs.length)
  | _ => false
def crD (p : Int × Int) : D := .tup [.int p.1, .int p.2]
structure RailOk (e r : Int) (cr : List (Int × Int)) : Prop where
  e1 : 1 ≤ e
  e2 : e ≤ 1000000000000
  r1 : 1 ≤ r
  r2 : r ≤ 1000000
  c1 : 1 ≤ cr.length
  c2 : cr.length ≤ 6
  cs : ∀ p ∈ cr, 1 ≤ p.1 ∧ p.1 ≤ 1000000000 ∧ 1 ≤ p.2 ∧ p.2 ≤ 1000
  fit : ((cr.length : Int) - 1) * r ≤ e
def railFs (e r : Int) (cr : List (Int × Int)) : List (Str × D) := [("end", .int e), ("room", .int r), ("cranes", .tup (cr.map crD))]
theorem cr_yes {p : Int × Int} (h : 1 ≤ p.1 ∧ p.1 ≤ 1000000000 ∧ 1 ≤ p.2 ∧ p.2 ≤ 1000) : isCr (crD p) = true := by
  show (amongI (.int p.1) 1 1000000000 && amongI (.int p.2) 1 1000) = true
  rw [among_yes ⟨h.1, h.2.1⟩, among_yes h.2.2]
  rfl
theorem rl_yes {e r : Int} {cr : List (Int × Int)} (ok : RailOk e r cr) : isRl (.int e) (.int r) (.lst (cr.map crD)) = true := by
  have hl : (cr.map crD).length = cr.length := List.length_map ..
  have ha : (cr.map crD).all isCr = true := by
    rw [List.all_map]
    exact List.all_eq_true.mpr fun p hp => cr_yes (ok.cs p hp)
  unfold isRl
  rw [among_yes ⟨ok.e1, ok.e2⟩, among_yes ⟨ok.r1, ok.r2⟩]
  show (true && true && ((decide (1 ≤ (cr.map crD).length) && decide ((cr.map crD).length ≤ 6)) && ((cr.map crD).all isCr && decide (((((cr.map crD).length : Nat) : Int) - 1) * r ≤ e)))) = true
  rw [hl, ha, decide_eq_true ok.c1, decide_eq_true ok.c2, decide_eq_true ok.fit]
  rfl


def top (i : Nat) : Stmt := PySem.Challenge.pw_craneyard_k02_rails.main.body.getD i (.Pass ⟨0, 0, 0, 0⟩)
/-- where the classes stand -/
structure XA where
  c_Rail : Addr
  c_CraneError : Addr
  c_BadName : Addr
  c_BadNumber : Addr
  c_BadRail : Addr
  c_BadStack : Addr
  c_BadPlaces : Addr
  c_BadText : Addr
  c_Twice : Addr
  c_NoCrane : Addr
  c_NoStack : Addr
  c_NoBox : Addr
  c_NoJob : Addr
  c_Same : Addr
  c_Buried : Addr
  c_TooHigh : Addr
  c_TooHeavy : Addr
  c_Empty : Addr
  c_NoReach : Addr
  c_BadJournal : Addr
structure CF (K : PySem.W.Frag) (A : XA) : Prop where
  cl_Rail : Cls K A.c_Rail
  n_Rail_end : NoAttr K A.c_Rail "end"
  n_Rail_room : NoAttr K A.c_Rail "room"
  n_Rail_cranes : NoAttr K A.c_Rail "cranes"
  e_NoCrane : ExcC K A.c_NoCrane
  m_NoCrane : PySem.W.exmOne K (.ref A.c_NoCrane) (.ref A.c_CraneError) = some true
  i_NoCrane_BadName : PySem.W.kitOne K (.ref A.c_NoCrane) (.ref A.c_BadName) = some false
  i_NoCrane_BadNumber : PySem.W.kitOne K (.ref A.c_NoCrane) (.ref A.c_BadNumber) = some false
  i_NoCrane_BadRail : PySem.W.kitOne K (.ref A.c_NoCrane) (.ref A.c_BadRail) = some false
  i_NoCrane_BadStack : PySem.W.kitOne K (.ref A.c_NoCrane) (.ref A.c_BadStack) = some false
  i_NoCrane_BadPlaces : PySem.W.kitOne K (.ref A.c_NoCrane) (.ref A.c_BadPlaces) = some false
  i_NoCrane_BadText : PySem.W.kitOne K (.ref A.c_NoCrane) (.ref A.c_BadText) = some false
  i_NoCrane_Twice : PySem.W.kitOne K (.ref A.c_NoCrane) (.ref A.c_Twice) = some false
  i_NoCrane_NoCrane : PySem.W.kitOne K (.ref A.c_NoCrane) (.ref A.c_NoCrane) = some true
  i_NoCrane_NoStack : PySem.W.kitOne K (.ref A.c_NoCrane) (.ref A.c_NoStack) = some false
  i_NoCrane_NoBox : PySem.W.kitOne K (.ref A.c_NoCrane) (.ref A.c_NoBox) = some false
  i_NoCrane_NoJob : PySem.W.kitOne K (.ref A.c_NoCrane) (.ref A.c_NoJob) = some false
  i_NoCrane_Same : PySem.W.kitOne K (.ref A.c_NoCrane) (.ref A.c_Same) = some false
  i_NoCrane_Buried : PySem.W.kitOne K (.ref A.c_NoCrane) (.ref A.c_Buried) = some false
  i_NoCrane_TooHigh : PySem.W.kitOne K (.ref A.c_NoCrane) (.ref A.c_TooHigh) = some false
  i_NoCrane_TooHeavy : PySem.W.kitOne K (.ref A.c_NoCrane) (.ref A.c_TooHeavy) = some false
  i_NoCrane_Empty : PySem.W.kitOne K (.ref A.c_NoCrane) (.ref A.c_Empty) = some false
  i_NoCrane_NoReach : PySem.W.kitOne K (.ref A.c_NoCrane) (.ref A.c_NoReach) = some false
  i_NoCrane_BadJournal : PySem.W.kitOne K (.ref A.c_NoCrane) (.ref A.c_BadJournal) = some false
  i_NoCrane_ValueError : PySem.W.kitOne K (.ref A.c_NoCrane) (.type "ValueError") = some true

/-! the law's numbers -/
def mn (c k : Int) : Int := (c % 1000000007 + 7919 * k * k + 31 * k + 17) * 48271 % 2147483647
def mx (c k : Int) : Int := mn c k * (mn c k % 65521 + 16807) % 2147483629 / 4
theorem mx_in (c k : Int) : 0 ≤ mx c k ∧ mx c k < 1000000000 := by
  have h0 : 0 ≤ mn c k * (mn c k % 65521 + 16807) % 2147483629 := Int.emod_nonneg _ (by decide)
  have h1 : mn c k * (mn c k % 65521 + 16807) % 2147483629 < 2147483629 := Int.emod_lt_of_pos _ (by decide)
  unfold mx
  omega
def dv (c : Int) : Nat → Int
  | 0 => c
  | n + 1 => dv c n / 1000000000
def c0 (ns : List Int) (k : Int) : Int := ns.getD (k % (ns.length : Int)).toNat 0
def tm (ns : List Int) (k : Int) : Nat := (min 60 (k / (ns.length : Int))).toNat
def nb (ns : List Int) (k : Int) : Int := if ns = [] then mx 0 k else if ns.getD 0 0 % 2 = 1 then dv (c0 ns k) (tm ns k) % 1000000000 else mx (c0 ns k) k
theorem nb_in (ns : List Int) (k : Int) : 0 ≤ nb ns k ∧ nb ns k < 1000000000 := by
  unfold nb
  split
  · exact mx_in _ _
  · split
    · exact ⟨Int.emod_nonneg _ (by decide), Int.emod_lt_of_pos _ (by decide)⟩
    · exact mx_in _ _
def R_l_mixed : List D → D → Prop := fun ds d => ∃ c k, ds = [.int c, .int k] ∧ (0 ≤ k ∧ k ≤ 100000) ∧ d = .int (mx c k)
theorem ln_l_mixed {ds : List D} {d : D} (h : R_l_mixed ds d) : ds.length = 2 := by
  obtain ⟨c, k, rfl, _⟩ := h
  rfl
def R_l_number : List D → D → Prop := fun ds d => ∃ ns k, ds = [.scr ns, .int k] ∧ (0 ≤ k ∧ k ≤ 100000) ∧ ns.length ≤ 63 ∧ d = .int (nb ns k)
theorem ln_l_number {ds : List D} {d : D} (h : R_l_number ds d) : ds.length = 2 := by
  obtain ⟨c, k, rfl, _⟩ := h
  rfl
def sp_l_mixed (K : PySem.W.Frag) (A : XA) : Sp := spD K R_l_mixed
def sp_l_number (K : PySem.W.Frag) (A : XA) : Sp := spD K R_l_number
section
variable {K : PySem.W.Frag} {A : XA} {vs : List V} {H : Hp} {Q : VK} {E : XK}
theorem len_l_mixed (h : sp_l_mixed K A vs H Q E) : vs.length = 2 := spD_len (fun _ _ => ln_l_mixed) h
theorem len_l_number (h : sp_l_number K A vs H Q E) : vs.length = 2 := spD_len (fun _ _ => ln_l_number) h
end

/-! small data: what repr takes -/
structure Sm (n w : Nat) (d : D) : Prop where
  sh : shOk d = true
  lf : (toQ d).leavesShort 40 = true
  sw : PyData.showable (toQ d) = true
  dp : (toQ d).depth ≤ n
  wt : (toQ d).weight ≤ w
theorem Sm.mono {n w n' w' : Nat} {d : D} (h : Sm n w d) (hn : n ≤ n') (hw : w ≤ w') : Sm n' w' d := ⟨h.sh, h.lf, h.sw, Nat.le_trans h.dp hn, Nat.le_trans h.wt hw⟩
theorem sm_int {i : Int} (h : i.natAbs < 10 ^ 15) : Sm 0 60 (.int i) := by
  have hlog : i.natAbs.log2 < 50 := by
    by_cases z : i.natAbs = 0
    · rw [z]
      decide
    · exact (Nat.log2_lt z).mpr (Nat.lt_trans h (by decide))
  refine ⟨rfl, ?_, ?_, Nat.le_refl 0, ?_⟩
  · show decide ((PyData.shown (.int i)).length ≤ 40) = true
    refine decide_eq_true ?_
    have e := int_text_length_le10 (k := 15) (by decide) h
    show (Str.ofString (toString i)).length ≤ 40
    rw [ofString_length]
    omega
  · show decide (i.natAbs.log2 < 1920) = true
    exact decide_eq_true (by omega)
  · show (if i == 0 then 0 else i.natAbs.log2 + 1) ≤ 60
    split <;> omega
theorem sm_bl {b : Bool} : Sm 0 60 (.bl b) := ⟨rfl, rfl, rfl, Nat.le_refl 0, Nat.zero_le _⟩
theorem sm_non : Sm 0 60 .non := ⟨rfl, rfl, rfl, Nat.le_refl 0, Nat.zero_le _⟩
theorem sm_dic : Sm 1 60 (.dic []) := ⟨rfl, rfl, rfl, Nat.le_refl 1, Nat.zero_le _⟩
theorem sm_s1 : Sm 0 60 (.str "1") := ⟨rfl, by decide +kernel, rfl, Nat.le_refl 0, by decide +kernel⟩
theorem sm_s11 : Sm 0 60 (.str "11") := ⟨rfl, by decide +kernel, rfl, Nat.le_refl 0, by decide +kernel⟩
def SmA (n w : Nat) (xs : List D) : Prop := ∀ d ∈ xs, Sm n w d
theorem SmA.nil {n w : Nat} : SmA n w [] := fun _ h => nomatch h
theorem SmA.cons {n w : Nat} {x : D} {xs : List D} (h : Sm n w x) (t : SmA n w xs) : SmA n w (x :: xs) := fun d hd => by
  rcases List.mem_cons.mp hd with z | z
  · rw [z]
    exact h
  · exact t d z
theorem SmA.app {n w : Nat} {xs ys : List D} (h : SmA n w xs) (t : SmA n w ys) : SmA n w (xs ++ ys) := fun d hd => (List.mem_append.mp hd).elim (h d) (t d)
theorem sma_all {n w : Nat} : ∀ {xs : List D}, SmA n w xs → shOks xs = true ∧ PyData.leavesShortAll 40 (toQs xs) = true ∧ PyData.showableAll (toQs xs) = true ∧ PyData.depthAll (toQs xs) ≤ n ∧ PyData.weightAll (toQs xs) ≤ (w + 1) * xs.length
  | [], _ => ⟨rfl, rfl, rfl, Nat.zero_le _, Nat.zero_le _⟩
  | x :: xs, h => by
    obtain ⟨a, b, c, d, e⟩ := sma_all (xs := xs) fun y hy => h y (List.mem_cons_of_mem _ hy)
    have hx := h x List.mem_cons_self
    refine ⟨?_, ?_, ?_, ?_, ?_⟩
    · show (shOk x && shOks xs) = true
      rw [hx.sh, a]
      rfl
    · show ((toQ x).leavesShort 40 && PyData.leavesShortAll 40 (toQs xs)) = true
      rw [hx.lf, b]
      rfl
    · show (PyData.showable (toQ x) && PyData.showableAll (toQs xs)) = true
      rw [hx.sw, c]
      rfl
    · show max (toQ x).depth (PyData.depthAll (toQs xs)) ≤ n
      exact Nat.max_le.mpr ⟨hx.dp, d⟩
    · show (toQ x).weight + 1 + PyData.weightAll (toQs xs) ≤ (w + 1) * (xs.length + 1)
      have := hx.wt
      rw [Nat.mul_succ]
      omega
theorem sm_lst {n w k : Nat} {xs : List D} (h : SmA n w xs) (hk : xs.length ≤ k) : Sm (n + 1) ((w + 1) * k) (.lst xs) := by
  obtain ⟨a, b, c, d, e⟩ := sma_all h
  exact ⟨a, b, c, Nat.succ_le_succ d, Nat.le_trans e (Nat.mul_le_mul_left _ hk)⟩
theorem sm_tup {n w k : Nat} {xs : List D} (h : SmA n w xs) (hk : xs.length ≤ k) : Sm (n + 1) ((w + 1) * k) (.tup xs) := by
  obtain ⟨a, b, c, d, e⟩ := sma_all h
  exact ⟨a, b, c, Nat.succ_le_succ d, Nat.le_trans e (Nat.mul_le_mul_left _ hk)⟩

/-! the law's rail -/
def rmL (n : Int) : List Int := [1 + n / 4 % 5, 1 + n / 4 % 1000000, 1000000, 1]
def rmV (n : Int) : Int := (rmL n).getD (n % 4).toNat 0
def spL (c : Int) : List Int := [1 + c / 3 % 9, 1 + c / 3 % 1000000000, 1000000000]
def hoL (c : Int) : List Int := [1 + c / 30 % 5, 1 + c / 30 % 1000, 1000]
def crV (c : Int) : Int × Int := ((spL c).getD (c % 3).toNat 0, (hoL c).getD (c / 7 % 3).toNat 0)
def mnyV (n : Int) : Nat := (1 + n / 40 % 6).toNat
def crf (ns : List Int) (t : Int) (k : Nat) : Int × Int := crV (nb ns (t + 1 + (k : Int)))
def rC (ns : List Int) (t : Int) : List (Int × Int) := (List.range (mnyV (nb ns t))).map (crf ns t)
def lstV (ns : List Int) (t : Int) : Int := max 1 (((mnyV (nb ns t) : Int) - 1) * rmV (nb ns t))
def endL (l m n : Int) : List Int := [l, l + m / 5 % 40, min 1000000000000 (l + (m * 1000 + n % 1000)), 1000000000000, l + 1]
def rE (ns : List Int) (t : Int) : Int := (endL (lstV ns t) (nb ns (t + 8)) (nb ns t)).getD (nb ns (t + 8) % 5).toNat 0
theorem rm_in (n : Int) : 1 ≤ rmV n ∧ rmV n ≤ 1000000 := by
  have hm := getD_in (0 : Int) (rmL n) (n % 4).toNat (by
    have h0 : 0 ≤ n % 4 := Int.emod_nonneg _ (by decide)
    have h1 : n % 4 < 4 := Int.emod_lt_of_pos _ (by decide)
    show (n % 4).toNat < 4
    omega)
  have h : ∀ x ∈ rmL n, 1 ≤ x ∧ x ≤ 1000000 := by
    intro x hx
    simp only [rmL, List.mem_cons, List.not_mem_nil, or_false] at hx
    have a0 : 0 ≤ n / 4 % 5 := Int.emod_nonneg _ (by decide)
    have a1 : n / 4 % 5 < 5 := Int.emod_lt_of_pos _ (by decide)
    have b0 : 0 ≤ n / 4 % 1000000 := Int.emod_nonneg _ (by decide)
    have b1 : n / 4 % 1000000 < 1000000 := Int.emod_lt_of_pos _ (by decide)
    omega
  exact h _ hm
theorem cr_in (c : Int) : 1 ≤ (crV c).1 ∧ (crV c).1 ≤ 1000000000 ∧ 1 ≤ (crV c).2 ∧ (crV c).2 ≤ 1000 := by
  have hm := getD_in (0 : Int) (spL c) (c % 3).toNat (by
    have h0 : 0 ≤ c % 3 := Int.emod_nonneg _ (by decide)
    have h1 : c % 3 < 3 := Int.emod_lt_of_pos _ (by decide)
    show (c % 3).toNat < 3
    omega)
  have hm2 := getD_in (0 : Int) (hoL c) (c / 7 % 3).toNat (by
    have h0 : 0 ≤ c / 7 % 3 := Int.emod_nonneg _ (by decide)
    have h1 : c / 7 % 3 < 3 := Int.emod_lt_of_pos _ (by decide)
    show (c / 7 % 3).toNat < 3
    omega)
  have h : ∀ x ∈ spL c, 1 ≤ x ∧ x ≤ 1000000000 := by
    intro x hx
    simp only [spL, List.mem_cons, List.not_mem_nil, or_false] at hx
    have a0 : 0 ≤ c / 3 % 9 := Int.emod_nonneg _ (by decide)
    have a1 : c / 3 % 9 < 9 := Int.emod_lt_of_pos _ (by decide)
    have b0 : 0 ≤ c / 3 % 1000000000 := Int.emod_nonneg _ (by decide)
    have b1 : c / 3 % 1000000000 < 1000000000 := Int.emod_lt_of_pos _ (by decide)
    omega
  have h2 : ∀ x ∈ hoL c, 1 ≤ x ∧ x ≤ 1000 := by
    intro x hx
    simp only [hoL, List.mem_cons, List.not_mem_nil, or_false] at hx
    have a0 : 0 ≤ c / 30 % 5 := Int.emod_nonneg _ (by decide)
    have a1 : c / 30 % 5 < 5 := Int.emod_lt_of_pos _ (by decide)
    have b0 : 0 ≤ c / 30 % 1000 := Int.emod_nonneg _ (by decide)
    have b1 : c / 30 % 1000 < 1000 := Int.emod_lt_of_pos _ (by decide)
    omega
  exact ⟨(h _ hm).1, (h _ hm).2, (h2 _ hm2).1, (h2 _ hm2).2⟩
theorem mny_in (n : Int) : 1 ≤ mnyV n ∧ mnyV n ≤ 6 ∧ ((mnyV n : Nat) : Int) = 1 + n / 40 % 6 := by
  have h0 : 0 ≤ n / 40 % 6 := Int.emod_nonneg _ (by decide)
  have h1 : n / 40 % 6 < 6 := Int.emod_lt_of_pos _ (by decide)
  unfold mnyV
  omega
theorem lst_in (ns : List Int) (t : Int) : 1 ≤ lstV ns t ∧ lstV ns t ≤ 5000000 ∧ ((mnyV (nb ns t) : Int) - 1) * rmV (nb ns t) ≤ lstV ns t := by
  have hm := mny_in (nb ns t)
  have hr := rm_in (nb ns t)
  unfold lstV
  generalize rmV (nb ns t) = r at hr
  generalize mnyV (nb ns t) = m at hm
  have : ((m : Int) - 1) * r ≤ 5 * 1000000 := Int.mul_le_mul (by omega) hr.2 (by omega) (by decide)
  omega
theorem rE_in (ns : List Int) (t : Int) : lstV ns t ≤ rE ns t ∧ rE ns t ≤ 1000000000000 := by
  have hl := lst_in ns t
  have hb := nb_in ns (t + 8)
  have hc := nb_in ns t
  have h : ∀ x ∈ endL (lstV ns t) (nb ns (t + 8)) (nb ns t), lstV ns t ≤ x ∧ x ≤ 1000000000000 := by
    intro x hx
    simp only [endL, List.mem_cons, List.not_mem_nil, or_false] at hx
    have a0 : 0 ≤ nb ns (t + 8) / 5 % 40 := Int.emod_nonneg _ (by decide)
    have a1 : nb ns (t + 8) / 5 % 40 < 40 := Int.emod_lt_of_pos _ (by decide)
    have b0 : 0 ≤ nb ns t % 1000 := Int.emod_nonneg _ (by decide)
    generalize nb ns (t + 8) / 5 % 40 = y at *
    generalize nb ns t % 1000 = z at *
    omega
  exact h _ (getD_in (0 : Int) (endL (lstV ns t) (nb ns (t + 8)) (nb ns t)) (nb ns (t + 8) % 5).toNat (by
    have h0 : 0 ≤ nb ns (t + 8) % 5 := Int.emod_nonneg _ (by decide)
    have h1 : nb ns (t + 8) % 5 < 5 := Int.emod_lt_of_pos _ (by decide)
    show (nb ns (t + 8) % 5).toNat < 5
    omega))
theorem rC_len (ns : List Int) (t : Int) : (rC ns t).length = mnyV (nb ns t) := by
  unfold rC
  rw [List.length_map, List.length_range]
theorem rail_ok (ns : List Int) (t : Int) : RailOk (rE ns t) (rmV (nb ns t)) (rC ns t) := by
  have hm := mny_in (nb ns t)
  have hr := rm_in (nb ns t)
  have hl := lst_in ns t
  have he := rE_in ns t
  refine ⟨by omega, he.2, hr.1, hr.2, by rw [rC_len]; exact hm.1, by rw [rC_len]; exact hm.2.1, fun p hp => ?_, ?_⟩
  · unfold rC at hp
    obtain ⟨i, _, rfl⟩ := List.mem_map.mp hp
    exact cr_in _
  · rw [rC_len]
    omega
def R_l_rail : List D → D → Prop := fun ds d => ∃ ns t, ds = [.scr ns, .int t] ∧ (0 ≤ t ∧ t ≤ 10000) ∧ ns.length ≤ 63 ∧ d = .tup [.int (rE ns t), .int (rmV (nb ns t)), .lst ((rC ns t).map crD)]
theorem ln_l_rail {ds : List D} {d : D} (h : R_l_rail ds d) : ds.length = 2 := by
  obtain ⟨c, k, rfl, _⟩ := h
  rfl
def sp_l_rail (K : PySem.W.Frag) (A : XA) : Sp := spD K R_l_rail
theorem len_l_rail {K : PySem.W.Frag} {A : XA} {vs : List V} {H : Hp} {Q : VK} {E : XK} (h : sp_l_rail K A vs H Q E) : vs.length = 2 := spD_len (fun _ _ => ln_l_rail) h

/-! what is no rail -/
theorem rl_e {e r c : D} (h : amongI e 1 1000000000000 = false) : isRl e r c = false := by
  unfold isRl
  rw [h]
  rfl
theorem rl_r {e r c : D} (h : amongI r 1 1000000 = false) : isRl e r c = false := by
  unfold isRl
  rw [h, Bool.and_false]
  rfl
theorem rl_c {e r c : D} (h : isL c = false) : isRl e r c = false := by
  unfold isRl
  cases c <;> first | exact Bool.and_false _ | (exact absurd h Bool.noConfusion)
theorem rl_len {e r : D} {cs : List D} (h : ¬ (1 ≤ cs.length ∧ cs.length ≤ 6)) : isRl e r (.lst cs) = false := by
  unfold isRl
  show (_ && ((decide (1 ≤ cs.length) && decide (cs.length ≤ 6)) && _)) = false
  have : (decide (1 ≤ cs.length) && decide (cs.length ≤ 6)) = false := by
    rw [← Bool.not_eq_true, Bool.and_eq_true, decide_eq_true_iff, decide_eq_true_iff]
    exact h
  rw [this, Bool.false_and, Bool.and_false]
theorem rl_all {e r : D} {cs : List D} {x : D} (hx : x ∈ cs) (h : isCr x = false) : isRl e r (.lst cs) = false := by
  unfold isRl
  show (_ && (_ && (cs.all isCr && _))) = false
  have : cs.all isCr = false := by
    rw [List.all_eq_false]
    exact ⟨x, hx, by rw [h]; decide⟩
  rw [this, Bool.false_and, Bool.and_false, Bool.and_false]
theorem rl_fit {e r : Int} {cs : List D} (h : ¬ ((cs.length : Int) - 1) * r ≤ e) : isRl (.int e) (.int r) (.lst cs) = false := by
  unfold isRl
  show (_ && (_ && (_ && decide (((cs.length : Int) - 1) * r ≤ e)))) = false
  rw [decide_eq_false h, Bool.and_false, Bool.and_false, Bool.and_false]
theorem sm_cr {p : Int × Int} (h : 1 ≤ p.1 ∧ p.1 ≤ 1000000000 ∧ 1 ≤ p.2 ∧ p.2 ≤ 1000) : Sm 2 700 (crD p) :=
  (sm_tup (k := 2) (.cons (sm_int (by omega)) (.cons (sm_int (by omega)) .nil)) (by show 2 ≤ 2; decide)).mono (by decide) (by decide)
theorem sma_cr {e r : Int} {cr : List (Int × Int)} (ok : RailOk e r cr) : SmA 2 700 (cr.map crD) := fun d hd => by
  obtain ⟨p, hp, rfl⟩ := List.mem_map.mp hd
  exact sm_cr (ok.cs p hp)
theorem cut_sub {l : List D} {lo hi : Option Int} {d : D} (h : d ∈ cutD l lo hi) : d ∈ l := by
  unfold cutD at h
  exact List.mem_of_mem_drop (List.mem_of_mem_take h)
theorem cut_len {l : List D} {lo hi : Option Int} : (cutD l lo hi).length ≤ l.length := by
  unfold cutD
  rw [List.length_take, List.length_drop]
  omega
theorem cut_one {l : List D} (h : 1 ≤ l.length) : (cutD l none (some 1)).length = 1 := by
  unfold cutD
  rw [HT.sIx_none, show (1 : Int) = ((1 : Nat) : Int) from rfl, HT.sIx_nat, List.drop_zero, Nat.sub_zero, List.length_take]
  omega
theorem rep_len {l : List D} : ∀ n : Nat, (List.replicate n l).flatten.length = n * l.length
  | 0 => by
    rw [Nat.zero_mul]
    rfl
  | n + 1 => by
    rw [List.replicate_succ, List.flatten_cons, List.length_append, rep_len n, Nat.succ_mul]
    omega
theorem rep_sub {l : List D} {d : D} : ∀ {n : Nat}, d ∈ (List.replicate n l).flatten → d ∈ l
  | n, h => by
    obtain ⟨m, hm, hd⟩ := List.mem_flatten.mp h
    rw [(List.mem_replicate.mp hm).2] at hd
    exact hd
/-- what the law spoils -/
structure Bad (x y z : D) : Prop where
  no : isRl x y z = false
  sx : Sm 4 20000 x
  sy : Sm 4 20000 y
  sz : Sm 4 20000 z
theorem Bad.sm {x y z : D} (b : Bad x y z) : Sm 5 60003 (.tup [x, y, z]) := sm_tup (k := 3) (.cons b.sx (.cons b.sy (.cons b.sz .nil))) (by show 3 ≤ 3; decide)
theorem sm_list {xs : List D} (h : SmA 2 700 xs) (hl : xs.length ≤ 14) : Sm 4 20000 (.lst xs) := (sm_lst (k := 14) h hl).mono (by decide) (by decide)

/-! places that are apart -/
def nxt (r : Int) : D → Int
  | .int i => i + r
  | _ => 0
def apL (e r : Int) : Int → List D → Bool
  | _, [] => true
  | l, d :: ds => amongI d l e && apL e r (nxt r d) ds
def apD (e r : Int) (n : Nat) : D → Bool
  | .lst ds => decide (ds.length = n) && apL e r 0 ds
  | _ => false
def lstA (r l : Int) (ds : List D) : Nat → Int
  | 0 => l
  | i + 1 => nxt r (ds.getD i .non)
theorem apL_iff {e r : Int} : ∀ {ds : List D} {l : Int}, apL e r l ds = true ↔ ∀ i, i < ds.length → amongI (ds.getD i .non) (lstA r l ds i) e = true
  | [], l => ⟨fun _ i h => absurd h (Nat.not_lt_zero i), fun _ => rfl⟩
  | d :: ds, l => by
    unfold apL
    rw [Bool.and_eq_true, apL_iff (ds := ds)]
    constructor
    · rintro ⟨h1, h2⟩ i hi
      cases i with
      | zero => exact h1
      | succ i =>
        have := h2 i (Nat.lt_of_succ_lt_succ hi)
        cases i with
        | zero => exact this
        | succ i => exact this
    · intro h
      refine ⟨h 0 (Nat.succ_pos _), fun i hi => ?_⟩
      have := h (i + 1) (Nat.succ_lt_succ hi)
      cases i with
      | zero => exact this
      | succ i => exact this
theorem among_int {d : D} {a b : Int} (h : amongI d a b = true) : ∃ i, d = .int i ∧ a ≤ i ∧ i ≤ b := by
  cases d with
  | int i =>
    have : (decide (a ≤ i) && decide (i ≤ b)) = true := h
    rw [Bool.and_eq_true, decide_eq_true_iff, decide_eq_true_iff] at this
    exact ⟨i, rfl, this⟩
  | _ => exact absurd h Bool.false_ne_true
theorem getD_ints {ps : List Int} {i : Nat} (h : i < ps.length) : (ps.map D.int).getD i .non = .int (ps.getD i 0) := getD_mapD D.int 0 ps i h
/-- of whole numbers alone -/
theorem apL_ints {e r : Int} {ps : List Int} (hr : 0 ≤ r) : apL e r 0 (ps.map D.int) = true ↔ (∀ i, i < ps.length → 0 ≤ ps.getD i 0 ∧ ps.getD i 0 ≤ e) ∧ ∀ i, i + 1 < ps.length → ps.getD i 0 + r ≤ ps.getD (i + 1) 0 := by
  rw [apL_iff, List.length_map]
  constructor
  · intro h
    have k : ∀ i, i < ps.length → lstA r 0 (ps.map D.int) i ≤ ps.getD i 0 ∧ ps.getD i 0 ≤ e := fun i hi => by
      obtain ⟨j, hj, h1⟩ := among_int (h i hi)
      rw [getD_ints hi] at hj
      cases hj
      exact h1
    have g : ∀ i, i + 1 < ps.length → ps.getD i 0 + r ≤ ps.getD (i + 1) 0 := fun i hi => by
      have := (k (i + 1) hi).1
      have e1 : lstA r 0 (ps.map D.int) (i + 1) = ps.getD i 0 + r := by
        show nxt r ((ps.map D.int).getD i .non) = _
        rw [getD_ints (by omega)]
        rfl
      omega
    refine ⟨fun i hi => ⟨?_, (k i hi).2⟩, g⟩
    induction i with
    | zero => exact (k 0 hi).1
    | succ i ih =>
      have := ih (by omega)
      have := g i hi
      omega
  · rintro ⟨h1, h2⟩ i hi
    rw [getD_ints hi]
    refine among_yes ⟨?_, (h1 i hi).2⟩
    cases i with
    | zero => exact (h1 0 hi).1
    | succ i =>
      show nxt r ((ps.map D.int).getD i .non) ≤ _
      rw [getD_ints (by omega)]
      exact h2 i hi
/-- places that are more apart by a row -/
def spL4 (c lf : Int) : List Int := [0, c / 4 % (lf + 1), min lf (c / 4 % 5), lf]
def moreV (c lf : Int) : Int := (spL4 c lf).getD (c % 4).toNat 0
theorem more_in {c lf : Int} (h : 0 ≤ lf) : 0 ≤ moreV c lf ∧ moreV c lf ≤ lf := by
  have hm := getD_in (0 : Int) (spL4 c lf) (c % 4).toNat (by
    have h0 : 0 ≤ c % 4 := Int.emod_nonneg _ (by decide)
    have h1 : c % 4 < 4 := Int.emod_lt_of_pos _ (by decide)
    show (c % 4).toNat < 4
    omega)
  have hh : ∀ x ∈ spL4 c lf, 0 ≤ x ∧ x ≤ lf := by
    intro x hx
    simp only [spL4, List.mem_cons, List.not_mem_nil, or_false] at hx
    have a0 : 0 ≤ c / 4 % (lf + 1) := Int.emod_nonneg _ (by omega)
    have a1 : c / 4 % (lf + 1) < lf + 1 := Int.emod_lt_of_pos _ (by omega)
    have b0 : 0 ≤ c / 4 % 5 := Int.emod_nonneg _ (by decide)
    omega
  exact hh _ hm
/-- what is left, and the next place -/
def spA (ns : List Int) (t r l0 : Int) : Nat → Int × Int
  | 0 => (l0, 0)
  | i + 1 => ((spA ns t r l0 i).1 - moreV (nb ns (t + (i : Int))) (spA ns t r l0 i).1, (spA ns t r l0 i).2 + moreV (nb ns (t + (i : Int))) (spA ns t r l0 i).1 + r)
theorem spA_in {ns : List Int} {t r l0 : Int} (h : 0 ≤ l0) (hr : 0 ≤ r) : ∀ i : Nat, 0 ≤ (spA ns t r l0 i).1 ∧ 0 ≤ (spA ns t r l0 i).2 ∧ (spA ns t r l0 i).1 + (spA ns t r l0 i).2 = l0 + (i : Int) * r
  | 0 => by
    refine ⟨h, Int.le_refl 0, ?_⟩
    show l0 + 0 = l0 + ((0 : Nat) : Int) * r
    rw [show ((0 : Nat) : Int) = 0 from rfl, Int.zero_mul]
  | i + 1 => by
    obtain ⟨a, b, c⟩ := spA_in (ns := ns) (t := t) h hr i
    have m := more_in (c := nb ns (t + (i : Int))) a
    have e : ((i + 1 : Nat) : Int) * r = (i : Int) * r + r := by
      rw [Int.natCast_succ, Int.add_mul, Int.one_mul]
    show 0 ≤ (spA ns t r l0 i).1 - moreV (nb ns (t + (i : Int))) (spA ns t r l0 i).1 ∧ 0 ≤ (spA ns t r l0 i).2 + moreV (nb ns (t + (i : Int))) (spA ns t r l0 i).1 + r ∧ (spA ns t r l0 i).1 - moreV (nb ns (t + (i : Int))) (spA ns t r l0 i).1 + ((spA ns t r l0 i).2 + moreV (nb ns (t + (i : Int))) (spA ns t r l0 i).1 + r) = l0 + ((i + 1 : Nat) : Int) * r
    rw [e]
    omega
def plcF (ns : List Int) (t r l0 : Int) (i : Nat) : Int := (spA ns t r l0 i).2 + moreV (nb ns (t + (i : Int))) (spA ns t r l0 i).1
def plcs (ns : List Int) (t e r : Int) (n : Nat) : List Int := (List.range n).map (plcF ns t r (e - ((n : Int) - 1) * r))
theorem plcs_len {ns : List Int} {t e r : Int} {n : Nat} : (plcs ns t e r n).length = n := by
  unfold plcs
  rw [List.length_map, List.length_range]
theorem plcs_in {ns : List Int} {t e r : Int} {n : Nat} (hr : 0 ≤ r ∧ r ≤ 1000000) (he : e ≤ 1000000000000) (hn : 1 ≤ n ∧ n ≤ 6) (hf : ((n : Int) - 1) * r ≤ e) : ∀ p ∈ plcs ns t e r n, 0 ≤ p ∧ p ≤ 2000000000000 := fun p hp => by
  unfold plcs at hp
  obtain ⟨i, hi, rfl⟩ := List.mem_map.mp hp
  have hi' := List.mem_range.mp hi
  have h0 : 0 ≤ e - ((n : Int) - 1) * r := by omega
  obtain ⟨a, b, c⟩ := spA_in (ns := ns) (t := t) h0 hr.1 i
  have m := more_in (c := nb ns (t + (i : Int))) a
  have q : (i : Int) * r ≤ 5 * 1000000 := Int.mul_le_mul (by omega) hr.2 hr.1 (by decide)
  have q0 : 0 ≤ ((n : Int) - 1) * r := Int.mul_nonneg (by omega) hr.1
  unfold plcF
  omega
/-! things shown -/
theorem n_show {K : PySem.W.Frag} {d : D} (h : Sm 5 60003 d) : ∃ t, OpN K (gReprA K) [d] (.str t) := by
  have hz : (toQ d).shown.length ≤ sizeLine := by
    have a := PyData.shown_le 40 (by decide) (toQ d) h.lf
    have b := h.wt
    have c : sizeLine = 16777216 := sizeLine_eq
    have : (40 + 2) * (toQ d).weight ≤ 42 * 60003 := Nat.mul_le_mul_left 42 b
    omega
  have hd : (toQ d).depth ≤ 60 := Nat.le_trans h.dp (by decide)
  have hs := h.sh
  cases d with
  | non => exact ⟨_, opn_l n_reprN⟩
  | bl b => exact ⟨_, opn_l (opn_r (opn_l (op1_v fun {F H vs} e r => by
      obtain ⟨v, rfl, r1⟩ := rpa1 r
      cases r1
      exact ⟨.str (if b then "True" else "False"), .str _, fun Q q => ⟨b, rfl, q⟩⟩)))⟩
  | int i => exact ⟨_, opn_l (opn_l (op1_v fun {F H vs} e r => by
      obtain ⟨v, rfl, r1⟩ := rpa1 r
      cases r1
      exact ⟨.str _, .str _, fun Q q => ⟨i, rfl, of_decide_eq_true h.sw, q⟩⟩))⟩
  | str z => exact ⟨_, opn_l (n_reprS hz)⟩
  | lst xs => exact ⟨_, n_reprD (fun h => by cases h; exact ⟨_, rfl⟩) hs h.sw hd hz⟩
  | tup xs => exact ⟨_, n_reprD (fun h => by cases h; exact ⟨_, rfl⟩) hs h.sw hd hz⟩
  | dic es => exact ⟨_, n_reprD (fun h => by cases h; exact ⟨_, rfl⟩) hs h.sw hd hz⟩
  | obj C fs => unfold shOk at hs; cases hs
  | scr ns => unfold shOk at hs; cases hs
  | exc C => unfold shOk at hs; cases hs

def R_is_among : List D → D → Prop := fun ds d => ∃ x a b, ds = [x, .int a, .int b] ∧ noObj x = true ∧ d = .bl (amongI x a b)
theorem ln_is_among {ds : List D} {d : D} (h : R_is_among ds d) : ds.length = 3 := by
  obtain ⟨x, a, b, rfl, _⟩ := h
  rfl
def R_is_crane : List D → D → Prop := fun ds d => ∃ x, ds = [x] ∧ shOk x = true ∧ d = .bl (isCr x)
theorem ln_is_crane {ds : List D} {d : D} (h : R_is_crane ds d) : ds.length = 1 := by
  obtain ⟨x, rfl, _⟩ := h
  rfl
def R_is_rail : List D → D → Prop := fun ds d => ∃ e r c, ds = [e, r, c] ∧ (shOk e = true ∧ shOk r = true ∧ shOk c = true) ∧ d = .bl (isRl e r c)
theorem ln_is_rail {ds : List D} {d : D} (h : R_is_rail ds d) : ds.length = 3 := by
  obtain ⟨e, r, c, rfl, _⟩ := h
  rfl
def R_Rail_init : List D → List (Str × D) → Prop := fun ds fs => ∃ e r cr, ds = [.int e, .int r, .lst (cr.map crD)] ∧ RailOk e r cr ∧ fs = railFs e r cr
theorem ln_Rail_init {ds : List D} {d : List (Str × D)} (h : R_Rail_init ds d) : ds.length = 3 := by
  obtain ⟨e, r, cr, rfl, _⟩ := h
  rfl
def R_Rail_reach (A : XA) : List D → Res → Prop := fun ds z => match z with
  | .ok d => ∃ e r cr k, ds = [.obj A.c_Rail (railFs e r cr), .int k] ∧ RailOk e r cr ∧ (0 ≤ k ∧ k < (cr.length : Int)) ∧ d = .tup [.int (k * r), .int (e - ((cr.length : Int) - 1 - k) * r)]
  | .exc C => ∃ e r cr x, ds = [.obj A.c_Rail (railFs e r cr), x] ∧ shOk x = true ∧ amongI x 0 ((cr.length : Int) - 1) = false ∧ C = A.c_NoCrane
theorem ln_Rail_reach {A : XA} {ds : List D} {z : Res} (h : R_Rail_reach A ds z) : ds.length = 2 := by
  cases z with
  | ok fs =>
    obtain ⟨e, r, cr, k, rfl, _⟩ := h
    rfl
  | exc C =>
    obtain ⟨e, r, cr, k, rfl, _⟩ := h
    rfl
def R_Rail_are_apart (A : XA) : List D → D → Prop := fun ds d => ∃ e r cr x, ds = [.obj A.c_Rail (railFs e r cr), x] ∧ (shOk x = true ∧ cr.length ≤ 6) ∧ d = .bl (apD e r cr.length x)
theorem ln_Rail_are_apart {A : XA} {ds : List D} {d : D} (h : R_Rail_are_apart A ds d) : ds.length = 2 := by
  obtain ⟨e, r, cr, x, rfl, _⟩ := h
  rfl
def R_l_kind (A : XA) : List D → D → Prop := fun ds d => ds = [.exc A.c_NoCrane] ∧ d = .str "no crane"
theorem ln_l_kind {A : XA} {ds : List D} {d : D} (h : R_l_kind A ds d) : ds.length = 1 := by
  rw [h.1]
  rfl
def R_l_spread : List D → D → Prop := fun ds d => ∃ ns t e r cr, ds = [.scr ns, .int t, .tup [.int e, .int r, .lst (cr.map crD)]] ∧ (0 ≤ t ∧ t ≤ 10000) ∧ ns.length ≤ 63 ∧ RailOk e r cr ∧ d = .lst ((plcs ns t e r cr.length).map D.int)
theorem ln_l_spread {ds : List D} {d : D} (h : R_l_spread ds d) : ds.length = 3 := by
  obtain ⟨ns, t, e, r, cr, rfl, _⟩ := h
  rfl
def R_l_are_apart : List D → D → Prop := fun ds d => ∃ e r cr x, ds = [.tup [.int e, .int r, .lst (cr.map crD)], x] ∧ RailOk e r cr ∧ shOk x = true ∧ d = .bl (apD e r cr.length x)
theorem ln_l_are_apart {ds : List D} {d : D} (h : R_l_are_apart ds d) : ds.length = 2 := by
  obtain ⟨e, r, cr, x, rfl, _⟩ := h
  rfl
def R_l_no_crane (A : XA) : List D → D → Prop := fun ds d => ∃ e r cr x, ds = [.obj A.c_Rail (railFs e r cr), x] ∧ shOk x = true ∧ amongI x 0 ((cr.length : Int) - 1) = false ∧ d = .bl true
theorem ln_l_no_crane {A : XA} {ds : List D} {d : D} (h : R_l_no_crane A ds d) : ds.length = 2 := by
  obtain ⟨e, r, cr, x, rfl, _⟩ := h
  rfl
def R_l_told_right (A : XA) : List D → D → Prop := fun ds d => ∃ e r cr, ds = [.obj A.c_Rail (railFs e r cr), .tup [.int e, .int r, .lst (cr.map crD)]] ∧ RailOk e r cr ∧ d = .bl true
theorem ln_l_told_right {A : XA} {ds : List D} {d : D} (h : R_l_told_right A ds d) : ds.length = 2 := by
  obtain ⟨e, r, cr, rfl, _⟩ := h
  rfl
def sp_is_among (K : PySem.W.Frag) (A : XA) : Sp := spD K R_is_among
def sp_is_crane (K : PySem.W.Frag) (A : XA) : Sp := spD K R_is_crane
def sp_is_rail (K : PySem.W.Frag) (A : XA) : Sp := spD K R_is_rail
def sp_Rail_init (K : PySem.W.Frag) (A : XA) : Sp := spI K A.c_Rail R_Rail_init
def sp_Rail_reach (K : PySem.W.Frag) (A : XA) : Sp := spX K (R_Rail_reach A)
def sp_Rail_are_apart (K : PySem.W.Frag) (A : XA) : Sp := spD K (R_Rail_are_apart A)
def sp_l_kind (K : PySem.W.Frag) (A : XA) : Sp := spD K (R_l_kind A)
def sp_l_spread (K : PySem.W.Frag) (A : XA) : Sp := spD K R_l_spread
def sp_l_are_apart (K : PySem.W.Frag) (A : XA) : Sp := spD K R_l_are_apart
def sp_l_no_crane (K : PySem.W.Frag) (A : XA) : Sp := spD K (R_l_no_crane A)
def sp_l_told_right (K : PySem.W.Frag) (A : XA) : Sp := spD K (R_l_told_right A)
section
variable {K : PySem.W.Frag} {A : XA} {vs : List V} {H : Hp} {Q : VK} {E : XK}
theorem len_is_among (h : sp_is_among K A vs H Q E) : vs.length = 3 := spD_len (fun _ _ => ln_is_among) h
theorem len_is_crane (h : sp_is_crane K A vs H Q E) : vs.length = 1 := spD_len (fun _ _ => ln_is_crane) h
theorem len_is_rail (h : sp_is_rail K A vs H Q E) : vs.length = 3 := spD_len (fun _ _ => ln_is_rail) h
theorem len_Rail_init (h : sp_Rail_init K A vs H Q E) : vs.length = 4 := spI_len (fun _ _ => ln_Rail_init) h
theorem len_Rail_reach (h : sp_Rail_reach K A vs H Q E) : vs.length = 2 := spX_len (fun _ _ => ln_Rail_reach) h
theorem len_Rail_are_apart (h : sp_Rail_are_apart K A vs H Q E) : vs.length = 2 := spD_len (fun _ _ => ln_Rail_are_apart) h
theorem len_l_kind (h : sp_l_kind K A vs H Q E) : vs.length = 1 := spD_len (fun _ _ => ln_l_kind) h
theorem len_l_spread (h : sp_l_spread K A vs H Q E) : vs.length = 3 := spD_len (fun _ _ => ln_l_spread) h
theorem len_l_are_apart (h : sp_l_are_apart K A vs H Q E) : vs.length = 2 := spD_len (fun _ _ => ln_l_are_apart) h
theorem len_l_no_crane (h : sp_l_no_crane K A vs H Q E) : vs.length = 2 := spD_len (fun _ _ => ln_l_no_crane) h
theorem len_l_told_right (h : sp_l_told_right K A vs H Q E) : vs.length = 2 := spD_len (fun _ _ => ln_l_told_right) h
end

abbrev s_is_among : Stmt := (top 21)
abbrev nm_is_among : List Str := ["thing", "least", "most"]
theorem sc_is_among : FnScope nm_is_among ["thing", "least", "most"] (defScope s_is_among) := ⟨rfl, rfl, rfl, by decide +kernel, rfl, by decide +kernel, by decide +kernel⟩
def t_is_among (K : PySem.W.Frag) (A : XA) : TS := (tSeq (tIfS (tOr (tNot (tB (tCB (rIsi K) (tCons (tVar 0) (tCons (tC (.ty "int")) tNil))))) (tB (tCB (rIsi K) (tCons (tVar 0) (tCons (tC (.ty "bool")) tNil))))) (tRet (tC (.bl false))) tNext)
  (tRet (tChain (gLe) (gLe) (tVar 1) (tVar 0) (tVar 2))))

abbrev s_is_crane : Stmt := (top 30)
abbrev nm_is_crane : List Str := ["thing", "speed", "hoist"]
theorem sc_is_crane : FnScope nm_is_crane ["thing"] (defScope s_is_crane) := ⟨rfl, rfl, rfl, by decide +kernel, rfl, by decide +kernel, by decide +kernel⟩
def t_is_crane (K : PySem.W.Frag) (A : XA) : TS := (tSeq (tIfS (tOr (tNot (tB (tCB (rIsi K) (tCons (tVar 0) (tCons (tC (.ty "tuple")) tNil))))) (tTest (tOp (gNe K) (tCB (rLen K) (tCons (tVar 0) tNil)) (tC (.int 2))))) (tRet (tC (.bl false))) tNext)
  (tSeq (tAsg (tVar 0) (gTup K 2 (gCons (gName 1) (gCons (gName 2) gNil))))
  (tRet (tAndV (tCall (sp_is_among K A) [] E0 (tCons (tVar 1) (tCons (tC (.int 1)) (tCons (tC (.int 1000000000)) tNil)))) (tCall (sp_is_among K A) [] E0 (tCons (tVar 2) (tCons (tC (.int 1)) (tCons (tC (.int 1000)) tNil))))))))

abbrev s_is_rail : Stmt := (top 29)
abbrev nm_is_rail : List Str := ["end", "room", "cranes", "crane"]
theorem sc_is_rail : FnScope nm_is_rail ["end", "room", "cranes"] (defScope s_is_rail) := ⟨rfl, rfl, rfl, by decide +kernel, rfl, by decide +kernel, by decide +kernel⟩
def t_is_rail (K : PySem.W.Frag) (A : XA) : TS := (tSeq (tIfS (tOr (tNot (tB (tCall (sp_is_among K A) [] E0 (tCons (tVar 0) (tCons (tC (.int 1)) (tCons (tC (.int 1000000000000)) tNil)))))) (tNot (tB (tCall (sp_is_among K A) [] E0 (tCons (tVar 1) (tCons (tC (.int 1)) (tCons (tC (.int 1000000)) tNil))))))) (tRet (tC (.bl false))) tNext)
  (tSeq (tIfS (tOr (tNot (tB (tCB (rIsi K) (tCons (tVar 2) (tCons (tC (.ty "list")) tNil))))) (tNot (tTest (tChain (gLe) (gLe) (tC (.int 1)) (tCB (rLen K) (tCons (tVar 2) tNil)) (tC (.int 6)))))) (tRet (tC (.bl false))) tNext)
  (tSeq (tIfS (tNot (tB (tCB (rAll K) (tCons (tLc (iList K (tVar 2)) (gName 3) tYes (tCall (sp_is_crane K A) [] E0 (tCons (tVar 3) tNil)) [3]) tNil)))) (tRet (tC (.bl false))) tNext)
  (tRet (tOp (gLe) (tOp (gMul) (tOp (gSub) (tCB (rLen K) (tCons (tVar 2) tNil)) (tC (.int 1))) (tVar 1)) (tVar 0))))))

abbrev s_Rail_init : Stmt := (inClass (top 28) 0)
abbrev nm_Rail_init : List Str := ["self", "end", "room", "cranes", "speed", "hoist"]
theorem sc_Rail_init : FnScope nm_Rail_init ["self", "end", "room", "cranes"] (defScope s_Rail_init) := ⟨rfl, rfl, rfl, by decide +kernel, rfl, by decide +kernel, by decide +kernel⟩
def t_Rail_init (K : PySem.W.Frag) (A : XA) : TS := (tSeq (tIfS (tNot (tB (tCall (sp_is_rail K A) [] E0 (tCons (tVar 1) (tCons (tVar 2) (tCons (tVar 3) tNil)))))) (tNever) tNext)
  (tSeq (sFld K (tVar 0) (tVar 1) "end")
  (tSeq (sFld K (tVar 0) (tVar 2) "room")
  (sFld K (tVar 0) (tCB (rTupOf K) (tCons (tLc (iList K (tVar 3)) (gTup K 2 (gCons (gName 4) (gCons (gName 5) gNil))) tYes (tTup (tCons (tVar 4) (tCons (tVar 5) tNil))) [4, 5]) tNil)) "cranes"))))

abbrev s_Rail_reach : Stmt := (inClass (top 28) 1)
abbrev nm_Rail_reach : List Str := ["self", "crane", "last"]
theorem sc_Rail_reach : FnScope nm_Rail_reach ["self", "crane"] (defScope s_Rail_reach) := ⟨rfl, rfl, rfl, by decide +kernel, rfl, by decide +kernel, by decide +kernel⟩
def t_Rail_reach (K : PySem.W.Frag) (A : XA) (X : XK) : TS := (tSeq (tAsg (tOp (gSub) (tCB (rLen K) (tCons (tFld K (tVar 0) "cranes") tNil)) (tC (.int 1))) (gName 2))
  (tSeq (tIfS (tNot (tB (tCall (sp_is_among K A) [] E0 (tCons (tVar 1) (tCons (tC (.int 0)) (tCons (tVar 2) tNil)))))) (tRaise0 A.c_NoCrane X) tNext)
  (tRet (tTup (tCons (tOp (gMul) (tVar 1) (tFld K (tVar 0) "room")) (tCons (tOp (gSub) (tFld K (tVar 0) "end") (tOp (gMul) (tOp (gSub) (tVar 2) (tVar 1)) (tFld K (tVar 0) "room"))) tNil))))))

abbrev s_Rail_are_apart : Stmt := (inClass (top 28) 2)
abbrev nm_Rail_are_apart : List Str := ["self", "places", "least", "place"]
theorem sc_Rail_are_apart : FnScope nm_Rail_are_apart ["self", "places"] (defScope s_Rail_are_apart) := ⟨rfl, rfl, rfl, by decide +kernel, rfl, by decide +kernel, by decide +kernel⟩
def t_Rail_are_apart (K : PySem.W.Frag) (A : XA) : TS := (tSeq (tIfS (tOr (tNot (tB (tCB (rIsi K) (tCons (tVar 1) (tCons (tC (.ty "list")) tNil))))) (tTest (tOp (gNe K) (tCB (rLen K) (tCons (tVar 1) tNil)) (tCB (rLen K) (tCons (tFld K (tVar 0) "cranes") tNil))))) (tRet (tC (.bl false))) tNext)
  (tSeq (tAsg (tC (.int 0)) (gName 2))
  (tSeq (tFor (iList K (tVar 1)) (gName 3) (tSeq (tIfS (tNot (tB (tCall (sp_is_among K A) [] E0 (tCons (tVar 3) (tCons (tVar 2) (tCons (tFld K (tVar 0) "end") tNil)))))) (tRet (tC (.bl false))) tNext)
  (tAsg (tOp (gAdd K) (tVar 3) (tFld K (tVar 0) "room")) (gName 2))))
  (tRet (tC (.bl true))))))

abbrev s_l_kind : Stmt := (top 34)
abbrev nm_l_kind : List Str := ["_law_e", "_law_found"]
theorem sc_l_kind : FnScope nm_l_kind ["_law_e"] (defScope s_l_kind) := ⟨rfl, rfl, rfl, by decide +kernel, rfl, by decide +kernel, by decide +kernel⟩
def t_l_kind (K : PySem.W.Frag) (A : XA) : TS := (tSeq (tAsg (tOp (gAdd K) (tOp (gMul) (tLst (tCons (tC (.str ("name" : Str))) tNil)) (tCB (gInt) (tCons (tCB (gIsi K) (tCons (tVar 0) (tCons (tC (.ref A.c_BadName)) tNil))) tNil))) (tOp (gMul) (tLst (tCons (tC (.str ("number" : Str))) tNil)) (tCB (gInt) (tCons (tCB (gIsi K) (tCons (tVar 0) (tCons (tC (.ref A.c_BadNumber)) tNil))) tNil)))) (gName 1))
  (tSeq (tAsg (tOp (gAdd K) (tOp (gAdd K) (tVar 1) (tOp (gMul) (tLst (tCons (tC (.str ("rail" : Str))) tNil)) (tCB (gInt) (tCons (tCB (gIsi K) (tCons (tVar 0) (tCons (tC (.ref A.c_BadRail)) tNil))) tNil)))) (tOp (gMul) (tLst (tCons (tC (.str ("stack" : Str))) tNil)) (tCB (gInt) (tCons (tCB (gIsi K) (tCons (tVar 0) (tCons (tC (.ref A.c_BadStack)) tNil))) tNil)))) (gName 1))
  (tSeq (tAsg (tOp (gAdd K) (tOp (gAdd K) (tVar 1) (tOp (gMul) (tLst (tCons (tC (.str ("places" : Str))) tNil)) (tCB (gInt) (tCons (tCB (gIsi K) (tCons (tVar 0) (tCons (tC (.ref A.c_BadPlaces)) tNil))) tNil)))) (tOp (gMul) (tLst (tCons (tC (.str ("text" : Str))) tNil)) (tCB (gInt) (tCons (tCB (gIsi K) (tCons (tVar 0) (tCons (tC (.ref A.c_BadText)) tNil))) tNil)))) (gName 1))
  (tSeq (tAsg (tOp (gAdd K) (tOp (gAdd K) (tVar 1) (tOp (gMul) (tLst (tCons (tC (.str ("twice" : Str))) tNil)) (tCB (gInt) (tCons (tCB (gIsi K) (tCons (tVar 0) (tCons (tC (.ref A.c_Twice)) tNil))) tNil)))) (tOp (gMul) (tLst (tCons (tC (.str ("no crane" : Str))) tNil)) (tCB (gInt) (tCons (tCB (gIsi K) (tCons (tVar 0) (tCons (tC (.ref A.c_NoCrane)) tNil))) tNil)))) (gName 1))
  (tSeq (tAsg (tOp (gAdd K) (tOp (gAdd K) (tVar 1) (tOp (gMul) (tLst (tCons (tC (.str ("no stack" : Str))) tNil)) (tCB (gInt) (tCons (tCB (gIsi K) (tCons (tVar 0) (tCons (tC (.ref A.c_NoStack)) tNil))) tNil)))) (tOp (gMul) (tLst (tCons (tC (.str ("no box" : Str))) tNil)) (tCB (gInt) (tCons (tCB (gIsi K) (tCons (tVar 0) (tCons (tC (.ref A.c_NoBox)) tNil))) tNil)))) (gName 1))
  (tSeq (tAsg (tOp (gAdd K) (tOp (gAdd K) (tVar 1) (tOp (gMul) (tLst (tCons (tC (.str ("no job" : Str))) tNil)) (tCB (gInt) (tCons (tCB (gIsi K) (tCons (tVar 0) (tCons (tC (.ref A.c_NoJob)) tNil))) tNil)))) (tOp (gMul) (tLst (tCons (tC (.str ("same" : Str))) tNil)) (tCB (gInt) (tCons (tCB (gIsi K) (tCons (tVar 0) (tCons (tC (.ref A.c_Same)) tNil))) tNil)))) (gName 1))
  (tSeq (tAsg (tOp (gAdd K) (tOp (gAdd K) (tVar 1) (tOp (gMul) (tLst (tCons (tC (.str ("buried" : Str))) tNil)) (tCB (gInt) (tCons (tCB (gIsi K) (tCons (tVar 0) (tCons (tC (.ref A.c_Buried)) tNil))) tNil)))) (tOp (gMul) (tLst (tCons (tC (.str ("high" : Str))) tNil)) (tCB (gInt) (tCons (tCB (gIsi K) (tCons (tVar 0) (tCons (tC (.ref A.c_TooHigh)) tNil))) tNil)))) (gName 1))
  (tSeq (tAsg (tOp (gAdd K) (tOp (gAdd K) (tVar 1) (tOp (gMul) (tLst (tCons (tC (.str ("heavy" : Str))) tNil)) (tCB (gInt) (tCons (tCB (gIsi K) (tCons (tVar 0) (tCons (tC (.ref A.c_TooHeavy)) tNil))) tNil)))) (tOp (gMul) (tLst (tCons (tC (.str ("empty" : Str))) tNil)) (tCB (gInt) (tCons (tCB (gIsi K) (tCons (tVar 0) (tCons (tC (.ref A.c_Empty)) tNil))) tNil)))) (gName 1))
  (tSeq (tAsg (tOp (gAdd K) (tOp (gAdd K) (tVar 1) (tOp (gMul) (tLst (tCons (tC (.str ("reach" : Str))) tNil)) (tCB (gInt) (tCons (tCB (gIsi K) (tCons (tVar 0) (tCons (tC (.ref A.c_NoReach)) tNil))) tNil)))) (tOp (gMul) (tLst (tCons (tC (.str ("journal" : Str))) tNil)) (tCB (gInt) (tCons (tCB (gIsi K) (tCons (tVar 0) (tCons (tC (.ref A.c_BadJournal)) tNil))) tNil)))) (gName 1))
  (tRet (tM1 (rJoin K) (tC (.str ("/" : Str))) (tOp (gAdd K) (tVar 1) (tOp (gMul) (tLst (tCons (tC (.str ("base" : Str))) tNil)) (tCB (gInt) (tCons (tNotV (tCB (gIsi K) (tCons (tVar 0) (tCons (tC (.ty "ValueError")) tNil)))) tNil)))))))))))))))

abbrev s_l_mixed : Stmt := (top 32)
abbrev nm_l_mixed : List Str := ["_law_cell", "_law_k", "_law_number_here"]
theorem sc_l_mixed : FnScope nm_l_mixed ["_law_cell", "_law_k"] (defScope s_l_mixed) := ⟨rfl, rfl, rfl, by decide +kernel, rfl, by decide +kernel, by decide +kernel⟩
def t_l_mixed (K : PySem.W.Frag) (A : XA) : TS := (tSeq (tAsg (tOp (gMod) (tOp (gMul) (tOp (gAdd K) (tOp (gAdd K) (tOp (gAdd K) (tOp (gMod) (tVar 0) (tC (.int 1000000007))) (tOp (gMul) (tOp (gMul) (tC (.int 7919)) (tVar 1)) (tVar 1))) (tOp (gMul) (tC (.int 31)) (tVar 1))) (tC (.int 17))) (tC (.int 48271))) (tC (.int 2147483647))) (gName 2))
  (tRet (tOp (gFdv) (tOp (gMod) (tOp (gMul) (tVar 2) (tOp (gAdd K) (tOp (gMod) (tVar 2) (tC (.int 65521))) (tC (.int 16807)))) (tC (.int 2147483629))) (tC (.int 4)))))

abbrev s_l_number : Stmt := (top 33)
abbrev nm_l_number : List Str := ["_law_script", "_law_k", "_law_cell", "_law_time"]
theorem sc_l_number : FnScope nm_l_number ["_law_script", "_law_k"] (defScope s_l_number) := ⟨rfl, rfl, rfl, by decide +kernel, rfl, by decide +kernel, by decide +kernel⟩
def t_l_number (K : PySem.W.Frag) (A : XA) : TS := (tSeq (tAsg (tC (.int 0)) (gName 2))
  (tSeq (tIfS (tTest (tOp (gGt) (tCB (rLen K) (tCons (tVar 0) tNil)) (tC (.int 0)))) (tSeq (tAsg (tOp (gIx K) (tVar 0) (tOp (gMod) (tVar 1) (tCB (rLen K) (tCons (tVar 0) tNil)))) (gName 2))
  (tIfS (tTest (tOp (gEq K) (tOp (gMod) (tOp (gIx K) (tVar 0) (tC (.int 0))) (tC (.int 2))) (tC (.int 1)))) (tSeq (tFor (iRng1 (tCons (tCB (gMin K) (tCons (tC (.int 60)) (tCons (tOp (gFdv) (tVar 1) (tCB (rLen K) (tCons (tVar 0) tNil))) tNil))) tNil)) (gName 3) (tAsg (tOp (gFdv) (tVar 2) (tOp (gPow) (tC (.int 10)) (tC (.int 9)))) (gName 2)))
  (tRet (tOp (gMod) (tVar 2) (tOp (gPow) (tC (.int 10)) (tC (.int 9)))))) tNext)) tNext)
  (tRet (tCall (sp_l_mixed K A) [] E0 (tCons (tVar 2) (tCons (tVar 1) tNil))))))

abbrev s_l_rail : Stmt := (top 35)
abbrev nm_l_rail : List Str := ["_law_script", "_law_at", "_law_number_here", "_law_room", "_law_cranes", "_law_k", "_law_cell", "_law_speed", "_law_more", "_law_least", "_law_great", "_law_end"]
theorem sc_l_rail : FnScope nm_l_rail ["_law_script", "_law_at"] (defScope s_l_rail) := ⟨rfl, rfl, rfl, by decide +kernel, rfl, by decide +kernel, by decide +kernel⟩
def t_l_rail (K : PySem.W.Frag) (A : XA) : TS := (tSeq (tAsg (tCall (sp_l_number K A) [] E0 (tCons (tVar 0) (tCons (tVar 1) tNil))) (gName 2))
  (tSeq (tAsg (tOp (gIx K) (tLst (tCons (tOp (gAdd K) (tC (.int 1)) (tOp (gMod) (tOp (gFdv) (tVar 2) (tC (.int 4))) (tC (.int 5)))) (tCons (tOp (gAdd K) (tC (.int 1)) (tOp (gMod) (tOp (gFdv) (tVar 2) (tC (.int 4))) (tOp (gPow) (tC (.int 10)) (tC (.int 6))))) (tCons (tOp (gPow) (tC (.int 10)) (tC (.int 6))) (tCons (tC (.int 1)) tNil))))) (tOp (gMod) (tVar 2) (tC (.int 4)))) (gName 3))
  (tSeq (tAsg (tLst tNil) (gName 4))
  (tSeq (tFor (iRng1 (tCons (tOp (gAdd K) (tC (.int 1)) (tOp (gMod) (tOp (gFdv) (tVar 2) (tC (.int 40))) (tC (.int 6)))) tNil)) (gName 5) (tSeq (tAsg (tCall (sp_l_number K A) [] E0 (tCons (tVar 0) (tCons (tOp (gAdd K) (tOp (gAdd K) (tVar 1) (tC (.int 1))) (tVar 5)) tNil))) (gName 6))
  (tSeq (tAsg (tOp (gIx K) (tLst (tCons (tOp (gAdd K) (tC (.int 1)) (tOp (gMod) (tOp (gFdv) (tVar 6) (tC (.int 3))) (tC (.int 9)))) (tCons (tOp (gAdd K) (tC (.int 1)) (tOp (gMod) (tOp (gFdv) (tVar 6) (tC (.int 3))) (tOp (gPow) (tC (.int 10)) (tC (.int 9))))) (tCons (tOp (gPow) (tC (.int 10)) (tC (.int 9))) tNil)))) (tOp (gMod) (tVar 6) (tC (.int 3)))) (gName 7))
  (tDrop (tBM K "list" rAppend (tVar 4) (tCons (tTup (tCons (tVar 7) (tCons (tOp (gIx K) (tLst (tCons (tOp (gAdd K) (tC (.int 1)) (tOp (gMod) (tOp (gFdv) (tVar 6) (tC (.int 30))) (tC (.int 5)))) (tCons (tOp (gAdd K) (tC (.int 1)) (tOp (gMod) (tOp (gFdv) (tVar 6) (tC (.int 30))) (tC (.int 1000)))) (tCons (tC (.int 1000)) tNil)))) (tOp (gMod) (tOp (gFdv) (tVar 6) (tC (.int 7))) (tC (.int 3)))) tNil))) tNil))))))
  (tSeq (tAsg (tCall (sp_l_number K A) [] E0 (tCons (tVar 0) (tCons (tOp (gAdd K) (tVar 1) (tC (.int 8))) tNil))) (gName 8))
  (tSeq (tAsg (tCB (gMax K) (tCons (tC (.int 1)) (tCons (tOp (gMul) (tOp (gSub) (tCB (rLen K) (tCons (tVar 4) tNil)) (tC (.int 1))) (tVar 3)) tNil))) (gName 9))
  (tSeq (tAsg (tOp (gAdd K) (tOp (gMul) (tVar 8) (tC (.int 1000))) (tOp (gMod) (tVar 2) (tC (.int 1000)))) (gName 10))
  (tSeq (tAsg (tOp (gIx K) (tLst (tCons (tVar 9) (tCons (tOp (gAdd K) (tVar 9) (tOp (gMod) (tOp (gFdv) (tVar 8) (tC (.int 5))) (tC (.int 40)))) (tCons (tCB (gMin K) (tCons (tOp (gPow) (tC (.int 10)) (tC (.int 12))) (tCons (tOp (gAdd K) (tVar 9) (tVar 10)) tNil))) (tCons (tOp (gPow) (tC (.int 10)) (tC (.int 12))) (tCons (tOp (gAdd K) (tVar 9) (tC (.int 1))) tNil)))))) (tOp (gMod) (tVar 8) (tC (.int 5)))) (gName 11))
  (tRet (tTup (tCons (tVar 11) (tCons (tVar 3) (tCons (tVar 4) tNil)))))))))))))

abbrev s_l_spread : Stmt := (top 36)
abbrev nm_l_spread : List Str := ["_law_script", "_law_at", "_law_rail_here", "_law_end", "_law_room", "_law_cranes", "_law_left", "_law_found", "_law_place", "_law_k", "_law_cell", "_law_more"]
theorem sc_l_spread : FnScope nm_l_spread ["_law_script", "_law_at", "_law_rail_here"] (defScope s_l_spread) := ⟨rfl, rfl, rfl, by decide +kernel, rfl, by decide +kernel, by decide +kernel⟩
def t_l_spread (K : PySem.W.Frag) (A : XA) : TS := (tSeq (tAsg (tVar 2) (gTup K 3 (gCons (gName 3) (gCons (gName 4) (gCons (gName 5) gNil)))))
  (tSeq (tAsg (tOp (gSub) (tVar 3) (tOp (gMul) (tOp (gSub) (tCB (rLen K) (tCons (tVar 5) tNil)) (tC (.int 1))) (tVar 4))) (gName 6))
  (tSeq (tAsg (tLst tNil) (gName 7))
  (tSeq (tAsg (tC (.int 0)) (gName 8))
  (tSeq (tFor (iRng1 (tCons (tCB (rLen K) (tCons (tVar 5) tNil)) tNil)) (gName 9) (tSeq (tAsg (tCall (sp_l_number K A) [] E0 (tCons (tVar 0) (tCons (tOp (gAdd K) (tVar 1) (tVar 9)) tNil))) (gName 10))
  (tSeq (tAsg (tOp (gIx K) (tLst (tCons (tC (.int 0)) (tCons (tOp (gMod) (tOp (gFdv) (tVar 10) (tC (.int 4))) (tOp (gAdd K) (tVar 6) (tC (.int 1)))) (tCons (tCB (gMin K) (tCons (tVar 6) (tCons (tOp (gMod) (tOp (gFdv) (tVar 10) (tC (.int 4))) (tC (.int 5))) tNil))) (tCons (tVar 6) tNil))))) (tOp (gMod) (tVar 10) (tC (.int 4)))) (gName 11))
  (tSeq (tAsg (tOp (gSub) (tVar 6) (tVar 11)) (gName 6))
  (tSeq (tAsg (tOp (gAdd K) (tVar 8) (tVar 11)) (gName 8))
  (tSeq (tDrop (tBM K "list" rAppend (tVar 7) (tCons (tVar 8) tNil)))
  (tAsg (tOp (gAdd K) (tVar 8) (tVar 4)) (gName 8))))))))
  (tRet (tVar 7)))))))

abbrev s_l_are_apart : Stmt := (top 38)
abbrev nm_l_are_apart : List Str := ["_law_rail_here", "_law_places", "_law_end", "_law_room", "_law_cranes", "_law_one", "_law_k"]
theorem sc_l_are_apart : FnScope nm_l_are_apart ["_law_rail_here", "_law_places"] (defScope s_l_are_apart) := ⟨rfl, rfl, rfl, by decide +kernel, rfl, by decide +kernel, by decide +kernel⟩
def t_l_are_apart (K : PySem.W.Frag) (A : XA) : TS := (tSeq (tAsg (tVar 0) (gTup K 3 (gCons (gName 2) (gCons (gName 3) (gCons (gName 4) gNil)))))
  (tSeq (tIfS (tOr (tNot (tB (tCB (rIsi K) (tCons (tVar 1) (tCons (tC (.ty "list")) tNil))))) (tTest (tOp (gNe K) (tCB (rLen K) (tCons (tVar 1) tNil)) (tCB (rLen K) (tCons (tVar 4) tNil))))) (tRet (tC (.bl false))) tNext)
  (tSeq (tIfS (tTest (tOp (gNe K) (tLc (iList K (tVar 1)) (gName 5) (tOr (tB (tCB (rIsi K) (tCons (tVar 5) (tCons (tC (.ty "bool")) tNil)))) (tNot (tB (tCB (rIsi K) (tCons (tVar 5) (tCons (tC (.ty "int")) tNil)))))) (tVar 5) [5]) (tLst tNil))) (tRet (tC (.bl false))) tNext)
  (tSeq (tIfS (tOr (tTest (tOp (gLt) (tCB (gMin K) (tCons (tVar 1) tNil)) (tC (.int 0)))) (tTest (tOp (gGt) (tCB (gMax K) (tCons (tVar 1) tNil)) (tVar 2)))) (tRet (tC (.bl false))) tNext)
  (tRet (tOp (gEq K) (tLc (iRng2 (tCons (tC (.int 1)) (tCons (tCB (rLen K) (tCons (tVar 1) tNil)) tNil))) (gName 6) (tTest (tOp (gLt) (tOp (gIx K) (tVar 1) (tVar 6)) (tOp (gAdd K) (tOp (gIx K) (tVar 1) (tOp (gSub) (tVar 6) (tC (.int 1)))) (tVar 3)))) (tVar 6) [6]) (tLst tNil)))))))

abbrev s_l_no_crane : Stmt := (top 39)
abbrev nm_l_no_crane : List Str := ["_law_rail_here", "_law_thing", "_law_error", "_law_e"]
theorem sc_l_no_crane : FnScope nm_l_no_crane ["_law_rail_here", "_law_thing"] (defScope s_l_no_crane) := ⟨rfl, rfl, rfl, by decide +kernel, rfl, by decide +kernel, by decide +kernel⟩
def t_l_no_crane (K : PySem.W.Frag) (A : XA) : TS := (tSeq (tAsg (tC .non) (gName 2))
  (tSeq (tTry K (.ref A.c_CraneError) 3 2 (fun E => (tMethE A.c_Rail "reach" (sp_Rail_reach K A) E (tVar 0) (tCons (tVar 1) tNil))))
  (tRet (tAndV (tOp (gIn2) (tVar 2) (tC .non)) (tOp (gEq K) (tCall (sp_l_kind K A) [] E0 (tCons (tVar 2) tNil)) (tC (.str ("no crane" : Str))))))))

abbrev s_l_told_right : Stmt := (top 40)
abbrev nm_l_told_right : List Str := ["_law_rail_here", "_law_told", "_law_end", "_law_room", "_law_cranes", "_law_size", "_law_due", "_law_k", "_law_one"]
theorem sc_l_told_right : FnScope nm_l_told_right ["_law_rail_here", "_law_told"] (defScope s_l_told_right) := ⟨rfl, rfl, rfl, by decide +kernel, rfl, by decide +kernel, by decide +kernel⟩
def t_l_told_right (K : PySem.W.Frag) (A : XA) : TS := (tSeq (tAsg (tVar 1) (gTup K 3 (gCons (gName 2) (gCons (gName 3) (gCons (gName 4) gNil)))))
  (tSeq (tIfS (tTest (tOp (gNe K) (tCB (gReprA K) (tCons (tLst (tCons (tFld K (tVar 0) "end") (tCons (tFld K (tVar 0) "room") (tCons (tFld K (tVar 0) "cranes") tNil)))) tNil)) (tCB (gReprA K) (tCons (tLst (tCons (tVar 2) (tCons (tVar 3) (tCons (tCB (rTupOf K) (tCons (tVar 4) tNil)) tNil)))) tNil)))) (tRet (tC (.bl false))) tNext)
  (tSeq (tAsg (tCB (rLen K) (tCons (tVar 4) tNil)) (gName 5))
  (tSeq (tAsg (tLc (iRng1 (tCons (tVar 5) tNil)) (gName 7) tYes (tTup (tCons (tOp (gMul) (tVar 7) (tVar 3)) (tCons (tOp (gSub) (tVar 2) (tOp (gMul) (tOp (gSub) (tOp (gSub) (tVar 5) (tC (.int 1))) (tVar 7)) (tVar 3))) tNil))) [7]) (gName 6))
  (tSeq (tIfS (tTest (tOp (gNe K) (tCB (gReprA K) (tCons (tLc (iRng1 (tCons (tVar 5) tNil)) (gName 7) tYes (tMeth A.c_Rail "reach" (sp_Rail_reach K A) [] E0 (tVar 0) (tCons (tVar 7) tNil)) [7]) tNil)) (tCB (gReprA K) (tCons (tVar 6) tNil)))) (tRet (tC (.bl false))) tNext)
  (tRet (tAndV (tOp (gIs) (tMeth A.c_Rail "are_apart" (sp_Rail_are_apart K A) [] E0 (tVar 0) (tCons (tLc (iList K (tVar 6)) (gName 8) tYes (tOp (gIx K) (tVar 8) (tC (.int 0))) [8]) tNil)) (tC (.bl true))) (tOp (gIs) (tMeth A.c_Rail "are_apart" (sp_Rail_are_apart K A) [] E0 (tVar 0) (tCons (tLc (iList K (tVar 6)) (gName 8) tYes (tOp (gIx K) (tVar 8) (tC (.int 1))) [8]) tNil)) (tC (.bl true))))))))))

abbrev s_l_bent : Stmt := (top 37)
abbrev nm_l_bent : List Str := ["_law_places", "_law_cell", "_law_end", "_law_at", "_law_step", "_law_odd", "_law_some"]
theorem sc_l_bent : FnScope nm_l_bent ["_law_places", "_law_cell", "_law_end"] (defScope s_l_bent) := ⟨rfl, rfl, rfl, by decide +kernel, rfl, by decide +kernel, by decide +kernel⟩
def t_l_bent (K : PySem.W.Frag) (A : XA) : TS := (tSeq (tAsg (tOp (gMod) (tOp (gFdv) (tVar 1) (tC (.int 16))) (tCB (rLen K) (tCons (tVar 0) tNil))) (gName 3))
  (tSeq (tAsg (tOp (gAdd K) (tC (.int 1)) (tOp (gMod) (tOp (gFdv) (tVar 1) (tC (.int 100))) (tC (.int 3)))) (gName 4))
  (tSeq (tAsg (tOp (gIx K) (tLst (tCons (tC .non) (tCons (tC (.bl true)) (tCons (tC (.str ("1" : Str))) (tCons (tUn (rU fun i => .int (-i)) (tC (.int 1))) (tCons (tOp (gAdd K) (tOp (gAdd K) (tVar 2) (tC (.int 1))) (tOp (gMod) (tOp (gFdv) (tVar 1) (tC (.int 100))) (tC (.int 40)))) (tCons (tLst (tCons (tOp (gIx K) (tVar 0) (tVar 3)) tNil)) (tCons (tTup (tCons (tOp (gIx K) (tVar 0) (tVar 3)) tNil)) (tCons (tC (.bl false)) (tCons (tDNewK) tNil)))))))))) (tOp (gMod) (tOp (gFdv) (tVar 1) (tC (.int 300))) (tC (.int 9)))) (gName 5))
  (tSeq (tAsg (tLst (tCons (tOp (gSub) (tOp (gIx K) (tVar 0) (tVar 3)) (tVar 4)) (tCons (tOp (gAdd K) (tOp (gIx K) (tVar 0) (tVar 3)) (tVar 4)) (tCons (tVar 5) (tCons (tOp (gSub) (tOp (gIx K) (tVar 0) (tVar 3)) (tC (.int 1))) (tCons (tOp (gAdd K) (tOp (gIx K) (tVar 0) (tVar 3)) (tC (.int 1))) tNil)))))) (gName 6))
  (tSeq (tIfS (tTest (tOp (gLt) (tOp (gMod) (tVar 1) (tC (.int 16))) (tC (.int 10)))) (tRet (tOp (gAdd K) (tOp (gAdd K) (tSl (gSl K) (tVar 0) tNoPart (tPart (tVar 3))) (tLst (tCons (tOp (gIx K) (tVar 6) (tOp (gMod) (tVar 1) (tC (.int 5)))) tNil))) (tSl (gSl K) (tVar 0) (tPart (tOp (gAdd K) (tVar 3) (tC (.int 1)))) tNoPart))) tNext)
  (tSeq (tIfS (tTest (tOp (gLt) (tOp (gMod) (tVar 1) (tC (.int 16))) (tC (.int 12)))) (tRet (tOp (gAdd K) (tSl (gSl K) (tVar 0) tNoPart (tPart (tVar 3))) (tSl (gSl K) (tVar 0) (tPart (tOp (gAdd K) (tVar 3) (tC (.int 1)))) tNoPart))) tNext)
  (tSeq (tIfS (tTest (tOp (gLt) (tOp (gMod) (tVar 1) (tC (.int 16))) (tC (.int 14)))) (tRet (tOp (gAdd K) (tOp (gAdd K) (tSl (gSl K) (tVar 0) tNoPart (tPart (tVar 3))) (tLst (tCons (tOp (gIx K) (tVar 0) (tVar 3)) tNil))) (tSl (gSl K) (tVar 0) (tPart (tVar 3)) tNoPart))) tNext)
  (tRet (tOp (gIx K) (tLst (tCons (tCB (rTupOf K) (tCons (tVar 0) tNil)) (tCons (tRevL K (tVar 0)) tNil))) (tOp (gMod) (tVar 1) (tC (.int 2))))))))))))

def R_l_bent (K : PySem.W.Frag) (A : XA) : List D → D → Prop := fun ds d => ds.length = 3 ∧ StD K (t_l_bent K A) (args nm_l_bent.length ds) (.rt d)
theorem ln_l_bent {K : PySem.W.Frag} {A : XA} {ds : List D} {d : D} (h : R_l_bent K A ds d) : ds.length = 3 := h.1
def R_law : List D → D → Prop := fun ds d => ∃ ns, ds = [.scr ns] ∧ ns.length ≤ 63 ∧ d = .bl true
theorem ln_law {ds : List D} {d : D} (h : R_law ds d) : ds.length = 1 := by
  obtain ⟨ns, rfl, _⟩ := h
  rfl
def sp_l_bent (K : PySem.W.Frag) (A : XA) : Sp := spD K (R_l_bent K A)
def sp_law (K : PySem.W.Frag) : Sp := spD K R_law
section
variable {K : PySem.W.Frag} {A : XA} {vs : List V} {H : Hp} {Q : VK} {E : XK}
theorem len_l_bent (h : sp_l_bent K A vs H Q E) : vs.length = 3 := spD_len (fun _ _ => ln_l_bent) h
theorem len_law (h : sp_law K vs H Q E) : vs.length = 1 := spD_len (fun _ _ => ln_law) h
end

abbrev s_law : Stmt := (top 41)
abbrev nm_law : List Str := ["_law_script", "_law_k", "_law_at", "_law_told", "_law_handed", "_law_rail_here", "_law_places", "_law_cell", "_law_some", "_law_kept", "_law_odd"]
theorem sc_law : FnScope nm_law ["_law_script"] (defScope s_law) := ⟨rfl, rfl, rfl, by decide +kernel, rfl, by decide +kernel, by decide +kernel⟩
def t_law (K : PySem.W.Frag) (A : XA) : TS := (tSeq (tFor (iRng1 (tCons (tOp (gAdd K) (tC (.int 1)) (tCB (gMin K) (tCons (tC (.int 30)) (tCons (tCB (rLen K) (tCons (tVar 0) tNil)) tNil)))) tNil)) (gName 1) (tSeq (tAsg (tOp (gMul) (tC (.int 40)) (tVar 1)) (gName 2))
  (tSeq (tAsg (tCall (sp_l_rail K A) [] E0 (tCons (tVar 0) (tCons (tVar 2) tNil))) (gName 3))
  (tSeq (tAsg (tCB (rListOf K) (tCons (tOp (gIx K) (tVar 3) (tC (.int 2))) tNil)) (gName 4))
  (tSeq (tAsg (tMake A.c_Rail (sp_Rail_init K A) [] E0 (tCons (tOp (gIx K) (tVar 3) (tC (.int 0))) (tCons (tOp (gIx K) (tVar 3) (tC (.int 1))) (tCons (tVar 4) tNil)))) (gName 5))
  (tSeq (tIfS (tTest (tOp (gNe K) (tVar 4) (tOp (gIx K) (tVar 3) (tC (.int 2))))) (tRet (tC (.bl false))) tNext)
  (tSeq (tDrop (tBM0 K "list" rClear (tVar 4)))
  (tSeq (tAsg (tCall (sp_l_spread K A) [] E0 (tCons (tVar 0) (tCons (tOp (gAdd K) (tVar 2) (tC (.int 10))) (tCons (tVar 3) tNil)))) (gName 6))
  (tSeq (tAsg (tCall (sp_l_number K A) [] E0 (tCons (tVar 0) (tCons (tOp (gAdd K) (tVar 2) (tC (.int 20))) tNil))) (gName 7))
  (tSeq (tFor (iTup K (tTup (tCons (tVar 6) (tCons (tCall (sp_l_bent K A) [] E0 (tCons (tVar 6) (tCons (tVar 7) (tCons (tOp (gIx K) (tVar 3) (tC (.int 0))) tNil)))) (tCons (tCall (sp_l_bent K A) [] E0 (tCons (tVar 6) (tCons (tOp (gFdv) (tVar 7) (tC (.int 7))) (tCons (tOp (gIx K) (tVar 3) (tC (.int 0))) tNil)))) (tCons (tC .non) (tCons (tC (.int 5)) (tCons (tC (.str ("0" : Str))) (tCons (tDNewK) tNil))))))))) (gName 8) (tSeq (tAsg (tCB (gReprA K) (tCons (tVar 8) tNil)) (gName 9))
  (tIfS (tOr (tTest (tOp (gNe K) (tCB (gReprA K) (tCons (tMeth A.c_Rail "are_apart" (sp_Rail_are_apart K A) [] E0 (tVar 5) (tCons (tVar 8) tNil)) tNil)) (tCB (gReprA K) (tCons (tCall (sp_l_are_apart K A) [] E0 (tCons (tVar 3) (tCons (tVar 8) tNil))) tNil)))) (tTest (tOp (gNe K) (tCB (gReprA K) (tCons (tVar 8) tNil)) (tVar 9)))) (tRet (tC (.bl false))) tNext)))
  (tSeq (tAsg (tOp (gIx K) (tLst (tCons (tC .non) (tCons (tC (.bl true)) (tCons (tC (.bl false)) (tCons (tC (.str ("0" : Str))) (tCons (tLst (tCons (tC (.int 0)) tNil)) (tCons (tTup (tCons (tC (.int 0)) tNil)) (tCons (tDNewK) (tCons (tOp (gSub) (tUn (rU fun i => .int (-i)) (tC (.int 1))) (tVar 7)) (tCons (tOp (gAdd K) (tCB (rLen K) (tCons (tOp (gIx K) (tVar 3) (tC (.int 2))) tNil)) (tOp (gMod) (tOp (gFdv) (tVar 7) (tC (.int 9))) (tC (.int 50)))) tNil)))))))))) (tOp (gMod) (tVar 7) (tC (.int 9)))) (gName 10))
  (tIfS (tOr (tNot (tB (tCall (sp_l_told_right K A) [] E0 (tCons (tVar 5) (tCons (tVar 3) tNil))))) (tNot (tB (tCall (sp_l_no_crane K A) [] E0 (tCons (tVar 5) (tCons (tVar 10) tNil)))))) (tRet (tC (.bl false))) tNext))))))))))))
  (tRet (tC (.bl true))))

local macro_rules | `(tactic| walk_at "cy.side") => `(tactic| first | assumption | omega | decide | (simp only [List.length_map, List.length_cons, List.length_nil, List.length_append]; omega) | rfl)
local macro_rules | `(tactic| walk_at "cy.op") => `(tactic| first
  | exact d_addI | exact d_subI | exact d_ltI | exact d_leI | exact d_gtI | exact d_geI | exact d_eqI | exact d_neI | exact d_eqS | exact d_neS | exact d_leS | exact d_inC | exact d_niC
  | exact d_isN | exact d_niN | exact d_isB | exact d_pow9 | exact d_pow12 | exact d_pow6
  | exact d_fdv (by first | decide | omega) (by first | decide | omega) | exact d_mod (by first | decide | omega) | exact d_pow ⟨by decide, by decide, by decide⟩
  | exact d_mulI (Or.inl (by first | decide | omega)) | exact d_mulI (Or.inr (by first | decide | omega))
  | exact d_addS (by walk_at "cy.side") | exact d_ixL (by walk_at "cy.side") | exact d_ixT (by walk_at "cy.side") | exact d_ixR (by walk_at "cy.side") | exact d_ixS (by walk_at "cy.side") (by walk_at "cy.side")
  | exact d_ixLn (by walk_at "cy.side") (by walk_at "cy.side") | exact d_ixTn (by walk_at "cy.side") (by walk_at "cy.side") | exact d_ixRn (by walk_at "cy.side") (by walk_at "cy.side")
  | exact d_eqD (by walk_at "cy.side") (by walk_at "cy.side") | exact d_neD (by walk_at "cy.side") (by walk_at "cy.side"))
local macro_rules | `(tactic| walk_at "cy.n") => `(tactic| first
  | exact n_max2 | exact n_min2 | exact n_abs | exact n_lenL | exact n_lenT | exact n_lenR | exact n_lenS (by walk_at "cy.side") | exact n_reprB | exact n_reprN | exact n_reprI (by walk_at "cy.side") | exact n_all | exact n_any
  | exact n_strI (by walk_at "cy.side") | exact n_intS (by walk_at "cy.side") (by walk_at "cy.side"))
local macro_rules | `(tactic| walk_at "cy.s") => `(tactic| first
  | exact s_nil
  | (apply s_cons; walk_at "cy.e"; walk_at "cy.s"))
local macro_rules | `(tactic| walk_at "cy.p") => `(tactic| first
  | exact p_none
  | (apply p_some; walk_at "cy.e"))
local macro_rules | `(tactic| walk_at "cy.e") => `(tactic| first
  | assumption
  | exact e_var rfl
  | exact e_int | exact e_none | exact e_bl | exact e_str | exact e_dnew | exact e_disp1
  | (apply e_op; walk_at "cy.e"; walk_at "cy.e"; walk_at "cy.op")
  | (apply e_isi; walk_at "cy.e"; rfl; decide +kernel)
  | (apply e_cb; walk_at "cy.s"; walk_at "cy.n")
  | (apply e_chain; walk_at "cy.e"; walk_at "cy.e"; walk_at "cy.op"; (intro _; walk_at "cy.e"); (intro _; walk_at "cy.op"))
  | (apply e_tup; walk_at "cy.s"; walk_at "cy.side")
  | (apply e_share; apply o_lst; walk_at "cy.s"; walk_at "cy.side")
  | (apply e_slS; walk_at "cy.e"; walk_at "cy.p"; walk_at "cy.p"; walk_at "cy.side")
  | (apply e_share; apply o_sl; walk_at "cy.e"; walk_at "cy.p"; walk_at "cy.p")
  | (apply e_un; walk_at "cy.e"; exact op1_neg)
  | (apply e_notV; walk_at "cy.e")
  | (apply e_andV; walk_at "cy.e"; (intro _; walk_at "cy.e"))
  | (apply e_orV; walk_at "cy.e"; (intro _; walk_at "cy.e"))
  | (apply e_call; walk_at "cy.s"; walk_at "cy.side")
  | (apply e_share; apply o_call; walk_at "cy.s"; walk_at "cy.side"))
local macro_rules | `(tactic| walk_at "cy.t") => `(tactic| first
  | assumption
  | exact t_yes
  | (apply t_test; walk_at "cy.e")
  | (apply t_B; walk_at "cy.e")
  | (apply t_not; walk_at "cy.t")
  | (apply t_and; walk_at "cy.t"; (intro _; walk_at "cy.t"))
  | (apply t_or; walk_at "cy.t"; (intro _; walk_at "cy.t")))
local macro_rules | `(tactic| walk_at "cy.wk") => `(tactic| repeat (first | exact Wk.nil | apply Wk.keep | apply Wk.drop))

section
variable {A : XA}
theorem wipe1 {G : List Sl} {j : Nat} {d : Sl} : (wipeG G [j]).set j d = G.set j d := by
  show (G.set j .no).set j d = G.set j d
  rw [List.set_set]
theorem rd_is_among (K : PySem.W.Frag) (Z : CF K A) {ds : List D} {d : D} (h : R_is_among ds d) : StD K (t_is_among K A) (args nm_is_among.length ds) (.rt d) := by
  obtain ⟨x, a, b, rfl, hn, rfl⟩ := h
  unfold t_is_among
  have e1 : EvD K (tCB (rIsi K) (tCons (tVar 0) (tCons (tC (.ty "int")) tNil))) (args nm_is_among.length [x, .int a, .int b]) (.bl (isI x)) := e_isI (e_var rfl) hn
  have e2 : EvD K (tCB (rIsi K) (tCons (tVar 0) (tCons (tC (.ty "bool")) tNil))) (args nm_is_among.length [x, .int a, .int b]) (.bl (isB x)) := e_isB (e_var rfl) hn
  refine st_guard (t_or (t_not (t_B e1)) (fun _ => t_B e2)) (fun hx => st_ret ?_) (fun hx => st_ret ?_)
  · cases x <;> first | (cases hx; done) | exact e_bl
  · cases x <;> first | (cases hx; done) | skip
    rename_i i
    show EvD K _ _ (.bl (decide (a ≤ i) && decide (i ≤ b)))
    walk_at "cy.e"
theorem rd_is_crane (K : PySem.W.Frag) (Z : CF K A) {ds : List D} {d : D} (h : R_is_crane ds d) : StD K (t_is_crane K A) (args nm_is_crane.length ds) (.rt d) := by
  obtain ⟨x, rfl, hs, rfl⟩ := h
  have hn := sh_no hs
  unfold t_is_crane
  by_cases ht : isT x = true
  · cases x with
    | tup xs =>
      have tT : EvTt K (tOr (tNot (tB (tCB (rIsi K) (tCons (tVar 0) (tCons (tC (.ty "tuple")) tNil))))) (tTest (tOp (gNe K) (tCB (rLen K) (tCons (tVar 0) tNil)) (tC (.int 2))))) (args nm_is_crane.length [.tup xs]) (!decide ((xs.length : Int) = 2)) :=
        t_is (t_or (t_not (t_B (e_isT (e_var rfl) rfl))) (fun _ => t_test (e_op (e_cb (s_cons (e_var rfl) s_nil) n_lenT) e_int d_neI))) (by rfl)
      match xs, hs, tT with
      | [a, b], hs, tT =>
        unfold shOk shOks shOks shOks at hs
        rw [Bool.and_eq_true, Bool.and_eq_true] at hs
        exact st_guard (x := false) tT (fun q => nomatch q) (fun _ => st_seq (st_asg (e_var rfl) (g_tup (gs_cons g_name (gs_cons g_name gs_nil)) rfl)) (st_ret (e_andV (e_call (s_cons (e_var rfl) (s_cons e_int (s_cons e_int s_nil))) ⟨a, 1, 1000000000, rfl, sh_no hs.1, rfl⟩) (fun _ => e_call (s_cons (e_var rfl) (s_cons e_int (s_cons e_int s_nil))) ⟨b, 1, 1000, rfl, sh_no hs.2.1, rfl⟩))))
      | [], hs, tT => exact st_guard (x := true) tT (fun _ => st_ret e_bl) (fun q => nomatch q)
      | [a], hs, tT => exact st_guard (x := true) tT (fun _ => st_ret e_bl) (fun q => nomatch q)
      | a :: b :: c :: xs, hs, tT => exact st_guard (x := true) (t_is tT (by rw [decide_eq_false (by simp only [List.length_cons]; omega)]; rfl)) (fun _ => st_ret e_bl) (fun q => nomatch q)
    | _ => cases ht
  · have hf : isT x = false := Bool.eq_false_iff.mpr ht
    have hc : isCr x = false := by
      cases x <;> first | rfl | (exact absurd rfl ht)
    rw [hc]
    exact st_guard (x := true) (t_is (t_or (y := false) (t_not (t_B (e_isT (e_var rfl) hn))) (fun q => by rw [hf] at q; cases q)) (by rw [hf]; rfl)) (fun _ => st_ret e_bl) (fun q => nomatch q)
theorem sh_crs : ∀ cr : List (Int × Int), shOks (cr.map crD) = true
  | [] => by
    rw [List.map_nil]
    unfold shOks
    rfl
  | p :: cr => by
    rw [List.map_cons]
    unfold shOks
    rw [sh_crs cr]
    rfl
theorem sh_lst {xs : List D} (h : shOks xs = true) : shOk (.lst xs) = true := by
  unfold shOk
  exact h
theorem sh_mem : ∀ {xs : List D}, shOks xs = true → ∀ d ∈ xs, shOk d = true
  | x :: xs, h, d, hd => by
    unfold shOks at h
    rw [Bool.and_eq_true] at h
    rcases List.mem_cons.mp hd with z | z
    · rw [z]
      exact h.1
    · exact sh_mem h.2 d z
theorem rd_is_rail (K : PySem.W.Frag) (Z : CF K A) {ds : List D} {d : D} (h : R_is_rail ds d) : StD K (t_is_rail K A) (args nm_is_rail.length ds) (.rt d) := by
  obtain ⟨e, r, c, rfl, ⟨he, hr, hc⟩, rfl⟩ := h
  unfold t_is_rail
  have t1 : EvTt K (tOr (tNot (tB (tCall (sp_is_among K A) [] E0 (tCons (tVar 0) (tCons (tC (.int 1)) (tCons (tC (.int 1000000000000)) tNil)))))) (tNot (tB (tCall (sp_is_among K A) [] E0 (tCons (tVar 1) (tCons (tC (.int 1)) (tCons (tC (.int 1000000)) tNil))))))) (args nm_is_rail.length [e, r, c]) (!(amongI e 1 1000000000000 && amongI r 1 1000000)) := by
    refine t_is (t_or (t_not (t_B (e_call (s_cons (e_var rfl) (s_cons e_int (s_cons e_int s_nil))) ⟨e, 1, 1000000000000, rfl, sh_no he, rfl⟩))) (fun _ => t_not (t_B (e_call (s_cons (e_var rfl) (s_cons e_int (s_cons e_int s_nil))) ⟨r, 1, 1000000, rfl, sh_no hr, rfl⟩)))) ?_
    rw [Bool.not_and]
  unfold isRl
  cases h1 : (amongI e 1 1000000000000 && amongI r 1 1000000) with
  | false =>
    rw [h1] at t1
    exact st_guard (x := true) t1 (fun _ => st_ret e_bl) (fun q => nomatch q)
  | true =>
    rw [h1] at t1
    refine st_pass t1 ?_
    obtain ⟨ie, rfl⟩ : ∃ i, e = .int i := by
      cases e <;> first | exact ⟨_, rfl⟩ | (exact absurd h1 Bool.false_ne_true)
    obtain ⟨ir, rfl⟩ : ∃ i, r = .int i := by
      rw [Bool.and_eq_true] at h1
      have h2 := h1.2
      cases r <;> first | exact ⟨_, rfl⟩ | (exact absurd h2 Bool.false_ne_true)
    by_cases hl : isL c = true
    · cases c with
      | lst cs =>
        have hcs : shOks cs = true := by
          unfold shOk at hc
          exact hc
        have t2 : EvTt K (tOr (tNot (tB (tCB (rIsi K) (tCons (tVar 2) (tCons (tC (.ty "list")) tNil))))) (tNot (tTest (tChain (gLe) (gLe) (tC (.int 1)) (tCB (rLen K) (tCons (tVar 2) tNil)) (tC (.int 6)))))) (args nm_is_rail.length [.int ie, .int ir, .lst cs]) (!(decide (1 ≤ cs.length) && decide (cs.length ≤ 6))) := by
          refine t_is (t_or (t_not (t_B (e_isL (e_var rfl) rfl))) (fun _ => t_not (t_test (e_chain e_int (e_cb (s_cons (e_var rfl) s_nil) n_lenL) d_leI (fun _ => e_int) (fun _ => d_leI))))) ?_
          show (!true || !(decide ((1 : Int) ≤ (cs.length : Int)) && decide ((cs.length : Int) ≤ 6))) = _
          have a : decide ((1 : Int) ≤ (cs.length : Int)) = decide (1 ≤ cs.length) := decide_eq_decide.mpr (by omega)
          have b : decide ((cs.length : Int) ≤ 6) = decide (cs.length ≤ 6) := decide_eq_decide.mpr (by omega)
          rw [a, b]
          rfl
        show StD K _ _ (.rt (.bl (true && ((decide (1 ≤ cs.length) && decide (cs.length ≤ 6)) && (cs.all isCr && decide (((cs.length : Int) - 1) * ir ≤ ie))))))
        cases h2 : (decide (1 ≤ cs.length) && decide (cs.length ≤ 6)) with
        | false =>
          rw [h2] at t2
          exact st_guard (x := true) t2 (fun _ => st_ret e_bl) (fun q => nomatch q)
        | true =>
          rw [h2] at t2
          rw [Bool.and_eq_true, decide_eq_true_iff, decide_eq_true_iff] at h2
          refine st_pass t2 ?_
          have t3 : EvTt K (tNot (tB (tCB (rAll K) (tCons (tLc (iList K (tVar 2)) (gName 3) tYes (tCall (sp_is_crane K A) [] E0 (tCons (tVar 3) tNil)) [3]) tNil)))) (args nm_is_rail.length [.int ie, .int ir, .lst cs]) (!cs.all isCr) := by
            refine t_is (t_not (t_B (e_cb (s_cons (e_is (e_share (o_lcM (fun d => D.bl (isCr d)) (it_list (e_var rfl)) (by omega) (fun d hd => ?_))) (b := .lst ((cs.map isCr).map D.bl)) ?_) s_nil) n_all))) ?_
            · rw [wipe1]
              exact e_call (s_cons (e_var rfl) s_nil) ⟨d, rfl, sh_mem hcs d hd, rfl⟩
            · rw [List.map_map]
              rfl
            · rw [List.all_map]
              rfl
          cases h3 : cs.all isCr with
          | false =>
            rw [h3] at t3
            exact st_guard (x := true) t3 (fun _ => st_ret e_bl) (fun q => nomatch q)
          | true =>
            rw [h3] at t3
            refine st_pass t3 (st_ret ?_)
            have hir : amongI (.int ir) 1 1000000 = true := by
              rw [Bool.and_eq_true] at h1
              exact h1.2
            have hb : 1 ≤ ir ∧ ir ≤ 1000000 := by
              have : (decide (1 ≤ ir) && decide (ir ≤ 1000000)) = true := hir
              rw [Bool.and_eq_true, decide_eq_true_iff, decide_eq_true_iff] at this
              exact this
            exact e_op (e_op (e_op (e_cb (s_cons (e_var rfl) s_nil) n_lenL) e_int d_subI) (e_var rfl) (d_mulI (Or.inr (by omega)))) (e_var rfl) d_leI
      | scr ns => unfold shOk at hc; cases hc
      | _ => cases hl
    · have hf : isL c = false := Bool.eq_false_iff.mpr hl
      have t2 : EvTt K (tOr (tNot (tB (tCB (rIsi K) (tCons (tVar 2) (tCons (tC (.ty "list")) tNil))))) (tNot (tTest (tChain (gLe) (gLe) (tC (.int 1)) (tCB (rLen K) (tCons (tVar 2) tNil)) (tC (.int 6)))))) (args nm_is_rail.length [.int ie, .int ir, c]) true :=
        t_is (t_or (y := false) (t_not (t_B (e_isL (e_var rfl) (sh_no hc)))) (fun q => by rw [hf] at q; cases q)) (by rw [hf]; rfl)
      cases c with
      | lst cs => exact absurd rfl hl
      | _ => exact st_guard (x := true) t2 (fun _ => st_ret e_bl) (fun q => nomatch q)
theorem rd_l_mixed (K : PySem.W.Frag) (Z : CF K A) {ds : List D} {d : D} (h : R_l_mixed ds d) : StD K (t_l_mixed K A) (args nm_l_mixed.length ds) (.rt d) := by
  obtain ⟨c, k, rfl, hk, rfl⟩ := h
  have h0 : 0 ≤ mn c k := Int.emod_nonneg _ (by decide)
  have h1 : mn c k < 2147483647 := Int.emod_lt_of_pos _ (by decide)
  unfold t_l_mixed
  refine st_seq (st_asg (d := .int (mn c k)) (e_op (e_op (e_op (e_op (e_op (e_op (e_var rfl) e_int (d_mod (by decide))) (e_op (e_op e_int (e_var rfl) (d_mulI (Or.inl (by decide)))) (e_var rfl) (d_mulI (Or.inr (by omega)))) d_addI) (e_op e_int (e_var rfl) (d_mulI (Or.inl (by decide)))) d_addI) e_int d_addI) e_int (d_mulI (Or.inr (by decide)))) e_int (d_mod (by decide))) g_name) (st_ret ?_)
  unfold mx
  exact e_op (e_op (e_op (e_var rfl) (e_op (e_op (e_var rfl) e_int (d_mod (by decide))) e_int d_addI) (d_mulI (Or.inl (by omega)))) e_int (d_mod (by decide))) e_int (d_fdv (by decide) (by decide))
theorem rg_get {lo : Int} {n i : Nat} {d : D} (h : (rngD lo n)[i]? = some d) : i < n ∧ d = .int (lo + (i : Int)) := by
  unfold rngD at h
  rw [List.getElem?_map] at h
  cases q : (List.range n)[i]? with
  | none =>
    rw [q] at h
    cases h
  | some j =>
    rw [q] at h
    obtain ⟨h2, h3⟩ := List.getElem?_eq_some_iff.mp q
    rw [List.getElem_range] at h3
    subst h3
    cases h
    rw [List.length_range] at h2
    exact ⟨h2, rfl⟩
theorem rg_len {lo : Int} {n : Nat} : (rngD lo n).length = n := by
  unfold rngD
  rw [List.length_map, List.length_range]
theorem rd_l_number (K : PySem.W.Frag) (Z : CF K A) {ds : List D} {d : D} (h : R_l_number ds d) : StD K (t_l_number K A) (args nm_l_number.length ds) (.rt d) := by
  obtain ⟨ns, k, rfl, hk, hl, rfl⟩ := h
  unfold t_l_number nb
  refine st_seq (st_asg e_int g_name) ?_
  have t1 : EvTt K (tTest (tOp (gGt) (tCB (rLen K) (tCons (tVar 0) tNil)) (tC (.int 0)))) ((args nm_l_number.length [.scr ns, .int k]).set 2 (.dat (.int 0))) (decide ((0 : Int) < (ns.length : Int))) := t_test (e_op (e_cb (s_cons (e_var rfl) s_nil) n_lenR) e_int d_gtI)
  by_cases hn : ns = []
  · rw [if_pos hn]
    subst hn
    exact st_seq (st_if (x := false) t1 (fun q => nomatch q) (fun _ => st_next)) (st_ret (e_call (s_cons (e_var rfl) (s_cons (e_var rfl) s_nil)) ⟨0, k, rfl, hk, rfl⟩))
  · rw [if_neg hn]
    have hp : 0 < ns.length := List.length_pos_iff.mpr hn
    have hm0 : 0 ≤ k % (ns.length : Int) := Int.emod_nonneg _ (by omega)
    have hm1 : k % (ns.length : Int) < (ns.length : Int) := Int.emod_lt_of_pos _ (by omega)
    have t1' := t_is t1 (decide_eq_true (by omega : (0 : Int) < (ns.length : Int)))
    have ec : EvD K (tOp (gIx K) (tVar 0) (tOp (gMod) (tVar 1) (tCB (rLen K) (tCons (tVar 0) tNil)))) ((args nm_l_number.length [.scr ns, .int k]).set 2 (.dat (.int 0))) (.int (c0 ns k)) := e_op (e_var rfl) (e_op (e_var rfl) (e_cb (s_cons (e_var rfl) s_nil) n_lenR) (d_mod (by omega))) (d_ixRn hm0 hm1)
    have t2 : EvTt K (tTest (tOp (gEq K) (tOp (gMod) (tOp (gIx K) (tVar 0) (tC (.int 0))) (tC (.int 2))) (tC (.int 1)))) (((args nm_l_number.length [.scr ns, .int k]).set 2 (.dat (.int 0))).set 2 (.dat (.int (c0 ns k)))) (decide (ns.getD 0 0 % 2 = 1)) := t_test (e_op (e_op (e_op (e_var rfl) e_int (d_ixRn (by decide) (by omega))) e_int (d_mod (by decide))) e_int d_eqI)
    by_cases ho : ns.getD 0 0 % 2 = 1
    · rw [if_pos ho]
      have hq0 : 0 ≤ k / (ns.length : Int) := Int.ediv_nonneg hk.1 (by omega)
      refine st_stop (st_if t1' (fun _ => ?_) (fun q => nomatch q)) (fun _ q => nomatch q)
      refine st_seq (st_asg ec g_name) (st_if (t_is t2 (decide_eq_true ho)) (fun _ => ?_) (fun q => nomatch q))
      let C : Nat → List Sl := fun i => [.dat (.scr ns), .dat (.int k), .dat (.int (dv (c0 ns k) i)), .no]
      refine st_seq (G1 := C (tm ns k)) (st_for (it_rng1 (n := min 60 (k / (ns.length : Int))) (s_cons (e_cb (s_cons e_int (s_cons (e_op (e_var rfl) (e_cb (s_cons (e_var rfl) s_nil) n_lenR) (d_fdv (by omega) (by omega))) s_nil)) n_min2) s_nil) (by omega)) C rfl (fun i => (C i).set 3 (.dat (.int (i : Int)))) (fun i d hd => ?_)
        (fun i => .nx ((C (i + 1)).set 3 (.dat (.int (i : Int))))) (fun i hi _ => ?_) (fun i hi => .inl ⟨_, .inl rfl, Wk.keep (Wk.keep (Wk.keep (Wk.drop Wk.nil)))⟩) (fun _ => by rw [rg_len]; rfl)) (st_ret (e_op (e_var rfl) (e_op e_int e_int d_pow9) (d_mod (by decide))))
      · obtain ⟨_, rfl⟩ := rg_get hd
        rw [Int.zero_add]
        exact g_name
      · exact st_asg (e_op (e_var rfl) (e_op e_int e_int d_pow9) (d_fdv (by decide) (by decide))) g_name
    · rw [if_neg ho]
      exact st_seq (st_if t1' (fun _ => st_seq (st_asg ec g_name) (st_if (t_is t2 (decide_eq_false ho)) (fun q => nomatch q) (fun _ => st_next))) (fun q => nomatch q)) (st_ret (e_call (s_cons (e_var rfl) (s_cons (e_var rfl) s_nil)) ⟨c0 ns k, k, rfl, hk, rfl⟩))
theorem e_nb {K : PySem.W.Frag} {G : List Sl} {ns : List Int} {i : Nat} {k : Int} {te : TE} {E : XK} (h : G[i]? = some (.dat (.scr ns))) (he : EvD K te G (.int k)) (hk : 0 ≤ k ∧ k ≤ 100000) (hl : ns.length ≤ 63) : EvD K (tCall (sp_l_number K A) [] E (tCons (tVar i) (tCons te tNil))) G (.int (nb ns k)) := e_call (s_cons (e_var h) (s_cons he s_nil)) ⟨ns, k, rfl, hk, hl, rfl⟩
theorem rd_l_rail (K : PySem.W.Frag) (Z : CF K A) {ds : List D} {d : D} (h : R_l_rail ds d) : StD K (t_l_rail K A) (args nm_l_rail.length ds) (.rt d) := by
  obtain ⟨ns, t, rfl, ht, hl, rfl⟩ := h
  have hm := mny_in (nb ns t)
  have hr := rm_in (nb ns t)
  have hb := nb_in ns (t + 8)
  unfold t_l_rail
  refine st_seq (st_asg (d := .int (nb ns t)) (e_nb rfl (e_var rfl) (by omega) hl) g_name) ?_
  have q4 : EvD K (tOp (gFdv) (tVar 2) (tC (.int 4))) ((args nm_l_rail.length [.scr ns, .int t]).set 2 (.dat (.int (nb ns t)))) (.int (nb ns t / 4)) := e_op (e_var rfl) e_int (d_fdv (by decide) (by decide))
  refine st_seq (st_asg (d := .int (rmV (nb ns t))) (e_op (e_is (b := .lst ((rmL (nb ns t)).map D.int)) (e_share (o_lst (ds := [.int (1 + nb ns t / 4 % 5), .int (1 + nb ns t / 4 % 1000000), .int 1000000, .int 1]) (s_cons (e_op e_int (e_op q4 e_int (d_mod (by decide))) d_addI) (s_cons (e_op e_int (e_op q4 (e_op e_int e_int d_pow6) (d_mod (by decide))) d_addI) (s_cons (e_op e_int e_int d_pow6) (s_cons e_int s_nil)))) (by show 4 ≤ 100000; decide))) rfl) (e_op (e_var rfl) e_int (d_mod (by decide))) (d_ixI (Int.emod_nonneg _ (by decide)) (Int.emod_lt_of_pos _ (by decide)))) g_name) ?_
  refine st_seq (st_asgO (o_lst s_nil (by show 0 ≤ 100000; decide))) ?_
  let C : Nat → List Sl := fun i => [.dat (.scr ns), .dat (.int t), .dat (.int (nb ns t)), .dat (.int (rmV (nb ns t))), .own (.lst (((List.range i).map (crf ns t)).map crD)), .no, .no, .no, .no, .no, .no, .no]
  refine st_seq (G1 := C (mnyV (nb ns t))) (st_for (it_rng1 (n := ((mnyV (nb ns t) : Nat) : Int)) (s_cons (e_is (e_op e_int (e_op (e_op (e_var rfl) e_int (d_fdv (by decide) (by decide))) e_int (d_mod (by decide))) d_addI) (by rw [hm.2.2])) s_nil) (by omega)) C rfl (fun i => (C i).set 5 (.dat (.int (i : Int)))) (fun i d hd => ?_)
    (fun i => .nx ((((C (i + 1)).set 5 (.dat (.int (i : Int)))).set 6 (.dat (.int (nb ns (t + 1 + (i : Int)))))).set 7 (.dat (.int (crf ns t i).1)))) (fun i hi _ => ?_) (fun i hi => .inl ⟨_, .inl rfl, Wk.keep (Wk.keep (Wk.keep (Wk.keep (Wk.keep (Wk.drop (Wk.drop (Wk.drop (Wk.keep (Wk.keep (Wk.keep (Wk.keep Wk.nil)))))))))))⟩) (fun _ => by rw [rg_len]; rfl)) ?_
  · obtain ⟨_, rfl⟩ := rg_get hd
    rw [Int.zero_add]
    exact g_name
  · rw [rg_len] at hi
    refine st_seq (st_asg (d := .int (nb ns (t + 1 + (i : Int)))) (e_nb rfl (e_op (e_op (e_var rfl) e_int d_addI) (e_var rfl) d_addI) (by omega) hl) g_name) ?_
    have hcr : crf ns t i = crV (nb ns (t + 1 + (i : Int))) := rfl
    generalize hc : nb ns (t + 1 + (i : Int)) = c at hcr
    have q3 : EvD K (tOp (gFdv) (tVar 6) (tC (.int 3))) (((C i).set 5 (.dat (.int (i : Int)))).set 6 (.dat (.int c))) (.int (c / 3)) := e_op (e_var rfl) e_int (d_fdv (by decide) (by decide))
    refine st_seq (st_asg (d := .int (crf ns t i).1) (e_is (e_op (e_is (b := .lst ((spL c).map D.int)) (e_share (o_lst (ds := [.int (1 + c / 3 % 9), .int (1 + c / 3 % 1000000000), .int 1000000000]) (s_cons (e_op e_int (e_op q3 e_int (d_mod (by decide))) d_addI) (s_cons (e_op e_int (e_op q3 (e_op e_int e_int d_pow9) (d_mod (by decide))) d_addI) (s_cons (e_op e_int e_int d_pow9) s_nil))) (by show 3 ≤ 100000; decide))) rfl) (e_op (e_var rfl) e_int (d_mod (by decide))) (d_ixI (Int.emod_nonneg _ (by decide)) (Int.emod_lt_of_pos _ (by decide)))) (by rw [hcr]; rfl)) g_name) ?_
    have q30 : EvD K (tOp (gFdv) (tVar 6) (tC (.int 30))) ((((C i).set 5 (.dat (.int (i : Int)))).set 6 (.dat (.int c))).set 7 (.dat (.int (crf ns t i).1))) (.int (c / 30)) := e_op (e_var rfl) e_int (d_fdv (by decide) (by decide))
    refine st_is (st_app (i := 4) (d := crD (crf ns t i)) rfl (e_tup (s_cons (e_var rfl) (s_cons (e_is (e_op (e_is (b := .lst ((hoL c).map D.int)) (e_share (o_lst (ds := [.int (1 + c / 30 % 5), .int (1 + c / 30 % 1000), .int 1000]) (s_cons (e_op e_int (e_op q30 e_int (d_mod (by decide))) d_addI) (s_cons (e_op e_int (e_op q30 e_int (d_mod (by decide))) d_addI) (s_cons e_int s_nil))) (by show 3 ≤ 100000; decide))) rfl) (e_op (e_op (e_var rfl) e_int (d_fdv (by decide) (by decide))) e_int (d_mod (by decide))) (d_ixI (Int.emod_nonneg _ (by decide)) (Int.emod_lt_of_pos _ (by decide)))) (by rw [hcr]; rfl)) s_nil)) (by show 2 ≤ 100000; decide)) (by rw [List.length_map, List.length_map, List.length_range]; omega)) ?_
    have ec : ((List.range (i + 1)).map (crf ns t)).map crD = ((List.range i).map (crf ns t)).map crD ++ [crD (crf ns t i)] := by
      rw [List.range_succ, List.map_append, List.map_append]
      rfl
    show Out.nx ((((C i).set 5 (.dat (.int (i : Int)))).set 6 (.dat (.int c))).set 7 (.dat (.int (crf ns t i).1)) |>.set 4 (.own (.lst (((List.range i).map (crf ns t)).map crD ++ [crD (crf ns t i)])))) = Out.nx ((((C i).set 5 (.dat (.int (i : Int)))).set 6 (.dat (.int c))).set 7 (.dat (.int (crf ns t i).1)) |>.set 4 (.own (.lst (((List.range (i + 1)).map (crf ns t)).map crD))))
    rw [ec]
  have hcl : ((rC ns t).map crD).length = mnyV (nb ns t) := by rw [List.length_map, rC_len]
  refine st_freeze (i := 4) rfl ?_
  show StD K _ [.dat (.scr ns), .dat (.int t), .dat (.int (nb ns t)), .dat (.int (rmV (nb ns t))), .dat (.lst ((rC ns t).map crD)), .no, .no, .no, .no, .no, .no, .no] _
  refine st_seq (st_asg (d := .int (nb ns (t + 8))) (e_nb rfl (e_op (e_var rfl) e_int d_addI) (by omega) hl) g_name) ?_
  refine st_seq (st_asg (d := .int (lstV ns t)) (e_cb (s_cons e_int (s_cons (e_is (e_op (e_op (e_cb (s_cons (e_var rfl) s_nil) n_lenL) e_int d_subI) (e_var rfl) (d_mulI (Or.inr (by omega)))) (by rw [hcl])) s_nil)) n_max2) g_name) ?_
  refine st_seq (st_asg (d := .int (nb ns (t + 8) * 1000 + nb ns t % 1000)) (e_op (e_op (e_var rfl) e_int (d_mulI (Or.inr (by decide)))) (e_op (e_var rfl) e_int (d_mod (by decide))) d_addI) g_name) ?_
  refine st_seq (st_asg (d := .int (rE ns t)) (e_op (e_is (b := .lst ((endL (lstV ns t) (nb ns (t + 8)) (nb ns t)).map D.int)) (e_share (o_lst (ds := [.int (lstV ns t), .int (lstV ns t + nb ns (t + 8) / 5 % 40), .int (min 1000000000000 (lstV ns t + (nb ns (t + 8) * 1000 + nb ns t % 1000))), .int 1000000000000, .int (lstV ns t + 1)]) (s_cons (e_var rfl) (s_cons (e_op (e_var rfl) (e_op (e_op (e_var rfl) e_int (d_fdv (by decide) (by decide))) e_int (d_mod (by decide))) d_addI) (s_cons (e_cb (s_cons (e_op e_int e_int d_pow12) (s_cons (e_op (e_var rfl) (e_var rfl) d_addI) s_nil)) n_min2) (s_cons (e_op e_int e_int d_pow12) (s_cons (e_op (e_var rfl) e_int d_addI) s_nil))))) (by show 5 ≤ 100000; decide))) rfl) (e_op (e_var rfl) e_int (d_mod (by decide))) (d_ixI (Int.emod_nonneg _ (by decide)) (Int.emod_lt_of_pos _ (by decide)))) g_name) (st_ret (e_tup (s_cons (e_var rfl) (s_cons (e_var rfl) (s_cons (e_var rfl) s_nil))) (by show 3 ≤ 100000; decide)))
theorem rd_l_kind (K : PySem.W.Frag) (Z : CF K A) {ds : List D} {d : D} (h : R_l_kind A ds d) : StD K (t_l_kind K A) (args nm_l_kind.length ds) (.rt d) := by
  obtain ⟨rfl, rfl⟩ := h
  have hx := Z.e_NoCrane
  unfold t_l_kind
  refine st_seq (st_asg (d := .lst []) (e_cat (l := []) (m := []) (e_word (b := false) (e_kind rfl hx Z.i_NoCrane_BadName)) (e_word (b := false) (e_kind rfl hx Z.i_NoCrane_BadNumber)) (by show 0 ≤ 100000; decide)) g_name) ?_
  refine st_seq (st_asg (d := .lst []) (e_none2 (l := []) rfl (e_kind rfl hx Z.i_NoCrane_BadRail) (e_kind rfl hx Z.i_NoCrane_BadStack) (by show 0 ≤ 1000; decide)) g_name) ?_
  refine st_seq (st_asg (d := .lst []) (e_none2 (l := []) rfl (e_kind rfl hx Z.i_NoCrane_BadPlaces) (e_kind rfl hx Z.i_NoCrane_BadText) (by show 0 ≤ 1000; decide)) g_name) ?_
  refine st_seq (st_asg (d := .lst [.str "no crane"]) (e_is (e_cat (l := []) (m := [.str "no crane"]) (e_cat (l := []) (m := []) (e_var rfl) (e_word (b := false) (e_kind rfl hx Z.i_NoCrane_Twice)) (by show 0 ≤ 100000; decide)) (e_word (b := true) (e_kind rfl hx Z.i_NoCrane_NoCrane)) (by show 1 ≤ 100000; decide)) (by rfl)) g_name) ?_
  refine st_seq (st_asg (d := .lst [.str "no crane"]) (e_none2 (l := [.str "no crane"]) rfl (e_kind rfl hx Z.i_NoCrane_NoStack) (e_kind rfl hx Z.i_NoCrane_NoBox) (by show 1 ≤ 1000; decide)) g_name) ?_
  refine st_seq (st_asg (d := .lst [.str "no crane"]) (e_none2 (l := [.str "no crane"]) rfl (e_kind rfl hx Z.i_NoCrane_NoJob) (e_kind rfl hx Z.i_NoCrane_Same) (by show 1 ≤ 1000; decide)) g_name) ?_
  refine st_seq (st_asg (d := .lst [.str "no crane"]) (e_none2 (l := [.str "no crane"]) rfl (e_kind rfl hx Z.i_NoCrane_Buried) (e_kind rfl hx Z.i_NoCrane_TooHigh) (by show 1 ≤ 1000; decide)) g_name) ?_
  refine st_seq (st_asg (d := .lst [.str "no crane"]) (e_none2 (l := [.str "no crane"]) rfl (e_kind rfl hx Z.i_NoCrane_TooHeavy) (e_kind rfl hx Z.i_NoCrane_Empty) (by show 1 ≤ 1000; decide)) g_name) ?_
  refine st_seq (st_asg (d := .lst [.str "no crane"]) (e_none2 (l := [.str "no crane"]) rfl (e_kind rfl hx Z.i_NoCrane_NoReach) (e_kind rfl hx Z.i_NoCrane_BadJournal) (by show 1 ≤ 1000; decide)) g_name) ?_
  refine st_ret (e_is (e_join (a := "/") (ys := ["no crane"]) e_str (e_is (e_cat (l := [.str "no crane"]) (m := []) (e_var rfl) (e_word (b := false) (e_notV (e_kindT rfl hx Z.i_NoCrane_ValueError))) (by show 1 ≤ 100000; decide)) (by rfl)) (by decide +kernel)) ?_)
  have : Txt.join ("/" : Str) ["no crane"] = ("no crane" : Str) := by decide +kernel
  rw [this]
theorem rd_Rail_init (K : PySem.W.Frag) (Z : CF K A) {x : Addr} {ds : List D} {fs : List (Str × D)} (h : R_Rail_init ds fs) : ∃ G, G[0]? = some (.own (.ins x A.c_Rail fs)) ∧ StD K (t_Rail_init K A) (argsI nm_Rail_init.length x A.c_Rail ds) (.nx G) := by
  obtain ⟨e, r, cr, rfl, ok, rfl⟩ := h
  have c2 := ok.c2
  have hlen : (cr.map crD).length = cr.length := List.length_map ..
  refine ⟨[.own (.ins x A.c_Rail (railFs e r cr)), .dat (.int e), .dat (.int r), .dat (.lst (cr.map crD)), .no, .no], rfl, ?_⟩
  unfold t_Rail_init
  refine st_pass (t_is (t_not (t_B (e_call (s_cons (e_var rfl) (s_cons (e_var rfl) (s_cons (e_var rfl) s_nil))) ⟨.int e, .int r, .lst (cr.map crD), rfl, ⟨rfl, rfl, sh_lst (sh_crs cr)⟩, rfl⟩))) (by rw [rl_yes ok]; rfl)) ?_
  refine st_seq (st_fld (i := 0) rfl (e_var rfl) Z.cl_Rail Z.n_Rail_end (by decide)) (st_seq (st_fld (i := 0) rfl (e_var rfl) Z.cl_Rail Z.n_Rail_room (by show 1 < 1000; decide)) (st_is (st_fld (i := 0) (d := .tup (cr.map crD)) rfl ?_ Z.cl_Rail Z.n_Rail_cranes (by show 2 < 1000; decide)) ?_))
  · refine e_cb (s_cons (e_is (e_share (o_lcM2 (by decide) (fun d => match d with | .tup [a, _] => a | _ => .non) (fun d => match d with | .tup [_, b] => b | _ => .non) (fun d => match d with | .tup [a, b] => .tup [a, b] | _ => .non) (it_list (e_var rfl)) (by rw [hlen]; omega) (fun d hd => ?_) (fun d hd => ?_))) ?_) s_nil) n_tupL
    · obtain ⟨p, _, rfl⟩ := List.mem_map.mp hd
      rfl
    · obtain ⟨p, _, rfl⟩ := List.mem_map.mp hd
      exact e_tup (s_cons (e_var rfl) (s_cons (e_var rfl) s_nil)) (by show 2 ≤ 100000; decide)
    · rw [List.map_map]
      rfl
  · rfl

theorem e_cranes {K : PySem.W.Frag} (Z : CF K A) {e r : Int} {cr : List (Int × Int)} {G : List Sl} {ta : TE} (h : EvD K ta G (.obj A.c_Rail (railFs e r cr))) : EvD K (tFld K ta "cranes") G (.tup (cr.map crD)) := e_fld h Z.cl_Rail Z.n_Rail_cranes rfl
theorem e_room {K : PySem.W.Frag} (Z : CF K A) {e r : Int} {cr : List (Int × Int)} {G : List Sl} {ta : TE} (h : EvD K ta G (.obj A.c_Rail (railFs e r cr))) : EvD K (tFld K ta "room") G (.int r) := e_fld h Z.cl_Rail Z.n_Rail_room rfl
theorem e_end {K : PySem.W.Frag} (Z : CF K A) {e r : Int} {cr : List (Int × Int)} {G : List Sl} {ta : TE} (h : EvD K ta G (.obj A.c_Rail (railFs e r cr))) : EvD K (tFld K ta "end") G (.int e) := e_fld h Z.cl_Rail Z.n_Rail_end rfl
theorem rd_Rail_reach (K : PySem.W.Frag) (Z : CF K A) {ds : List D} {z : Res} (E : XK) (h : R_Rail_reach A ds z) : StD K (t_Rail_reach K A E) (args nm_Rail_reach.length ds) (z.out E) := by
  unfold t_Rail_reach
  cases z with
  | ok d =>
    obtain ⟨e, r, cr, k, rfl, ok, hk, rfl⟩ := h
    have r1 := ok.r1
    have r2 := ok.r2
    have c2 := ok.c2
    have hlc : (cr.map crD).length = cr.length := List.length_map ..
    refine st_seq (st_asg (d := .int ((cr.length : Int) - 1)) (e_op (e_is (e_cb (s_cons (e_cranes Z (e_var rfl)) s_nil) n_lenT) (by rw [hlc])) e_int d_subI) g_name) ?_
    refine st_pass (t_is (t_not (t_B (e_call (s_cons (e_var rfl) (s_cons e_int (s_cons (e_var rfl) s_nil))) ⟨.int k, 0, (cr.length : Int) - 1, rfl, rfl, rfl⟩))) (by rw [among_yes (by omega)]; rfl)) ?_
    exact st_ret (e_tup (s_cons (e_op (e_var rfl) (e_room Z (e_var rfl)) (d_mulI (Or.inr (by omega)))) (s_cons (e_op (e_end Z (e_var rfl)) (e_op (e_op (e_var rfl) (e_var rfl) d_subI) (e_room Z (e_var rfl)) (d_mulI (Or.inr (by omega)))) d_subI) s_nil)) (by show 2 ≤ 100000; decide))
  | exc C =>
    obtain ⟨e, r, cr, x, rfl, hs, hf, rfl⟩ := h
    have hlc : (cr.map crD).length = cr.length := List.length_map ..
    refine st_seq (st_asg (d := .int ((cr.length : Int) - 1)) (e_op (e_is (e_cb (s_cons (e_cranes Z (e_var rfl)) s_nil) n_lenT) (by rw [hlc])) e_int d_subI) g_name) ?_
    exact st_fire (t_is (t_not (t_B (e_call (s_cons (e_var rfl) (s_cons e_int (s_cons (e_var rfl) s_nil))) ⟨x, 0, (cr.length : Int) - 1, rfl, sh_no hs, rfl⟩))) (by rw [hf]; rfl)) st_raise0 (fun _ q => nomatch q)
theorem lst_get {l : List D} {i : Nat} {d : D} (h : l[i]? = some d) : i < l.length ∧ d = l.getD i .non := by
  obtain ⟨h2, h3⟩ := List.getElem?_eq_some_iff.mp h
  rw [List.getD_eq_getElem?_getD, h]
  exact ⟨h2, rfl⟩
theorem getD_mem {l : List D} {i : Nat} (h : i < l.length) : l.getD i .non ∈ l := getD_in D.non l i h
theorem rd_Rail_are_apart (K : PySem.W.Frag) (Z : CF K A) {ds : List D} {d : D} (h : R_Rail_are_apart A ds d) : StD K (t_Rail_are_apart K A) (args nm_Rail_are_apart.length ds) (.rt d) := by
  obtain ⟨e, r, cr, x, rfl, ⟨hs, c2⟩, rfl⟩ := h
  have hlc : (cr.map crD).length = cr.length := List.length_map ..
  unfold t_Rail_are_apart
  by_cases hL : isL x = true
  · cases x with
    | scr ns => unfold shOk at hs; cases hs
    | lst xs =>
      have hxs : shOks xs = true := by
        unfold shOk at hs
        exact hs
      have t1 : EvTt K (tOr (tNot (tB (tCB (rIsi K) (tCons (tVar 1) (tCons (tC (.ty "list")) tNil))))) (tTest (tOp (gNe K) (tCB (rLen K) (tCons (tVar 1) tNil)) (tCB (rLen K) (tCons (tFld K (tVar 0) "cranes") tNil))))) (args nm_Rail_are_apart.length [.obj A.c_Rail (railFs e r cr), .lst xs]) (!decide ((xs.length : Int) = (cr.length : Int))) :=
        t_is (t_or (t_not (t_B (e_isL (e_var rfl) rfl))) (fun _ => t_test (e_op (e_cb (s_cons (e_var rfl) s_nil) n_lenL) (e_is (e_cb (s_cons (e_cranes Z (e_var rfl)) s_nil) n_lenT) (by rw [hlc])) d_neI))) (by rfl)
      show StD K _ _ (.rt (.bl (decide (xs.length = cr.length) && apL e r 0 xs)))
      by_cases hl : xs.length = cr.length
      · rw [decide_eq_true hl]
        have t1' := t_is t1 (y := false) (by rw [decide_eq_true (by omega)]; rfl)
        refine st_pass t1' (st_seq (st_asg e_int g_name) ?_)
        let C : Nat → List Sl := fun i => [.dat (.obj A.c_Rail (railFs e r cr)), .dat (.lst xs), .dat (.int (lstA r 0 xs i)), .no]
        let S : Nat → Out := fun i => if amongI (xs.getD i .non) (lstA r 0 xs i) e = true then .nx ((C (i + 1)).set 3 (.dat (xs.getD i .non))) else .rt (.bl false)
        have loop : ∀ {o : Out}, (∀ i, i < xs.length → Goes (S i) (C (i + 1)) ∨ Ends' (S i) o) → ((∀ i, i < xs.length → Goes (S i) (C (i + 1))) → o = .nx (C xs.length)) → StD K (tFor (iList K (tVar 1)) (gName 3) (tSeq (tIfS (tNot (tB (tCall (sp_is_among K A) [] E0 (tCons (tVar 3) (tCons (tVar 2) (tCons (tFld K (tVar 0) "end") tNil)))))) (tRet (tC (.bl false))) tNext) (tAsg (tOp (gAdd K) (tVar 3) (tFld K (tVar 0) "room")) (gName 2)))) (C 0) o := fun h1 h2 =>
          st_for (it_list (e_var rfl)) C rfl (fun i => (C i).set 3 (.dat (xs.getD i .non))) (fun i d hd => by
            obtain ⟨_, rfl⟩ := lst_get hd
            exact g_name) S (fun i hi _ => by
            have tt : EvTt K (tNot (tB (tCall (sp_is_among K A) [] E0 (tCons (tVar 3) (tCons (tVar 2) (tCons (tFld K (tVar 0) "end") tNil)))))) ((C i).set 3 (.dat (xs.getD i .non))) (!amongI (xs.getD i .non) (lstA r 0 xs i) e) :=
              t_not (t_B (e_call (s_cons (e_var rfl) (s_cons (e_var rfl) (s_cons (e_end Z (e_var rfl)) s_nil))) ⟨_, _, _, rfl, sh_no (sh_mem hxs _ (getD_mem hi)), rfl⟩))
            by_cases ha : amongI (xs.getD i .non) (lstA r 0 xs i) e = true
            · have hS : S i = .nx ((C (i + 1)).set 3 (.dat (xs.getD i .non))) := if_pos ha
              rw [hS]
              rw [ha] at tt
              refine st_pass tt ?_
              obtain ⟨j, hj, _⟩ := among_int ha
              show StD K _ [.dat (.obj A.c_Rail (railFs e r cr)), .dat (.lst xs), .dat (.int (lstA r 0 xs i)), .dat (xs.getD i .non)] (.nx [.dat (.obj A.c_Rail (railFs e r cr)), .dat (.lst xs), .dat (.int (nxt r (xs.getD i .non))), .dat (xs.getD i .non)])
              rw [hj]
              exact st_asg (e_op (e_var rfl) (e_room Z (e_var rfl)) d_addI) g_name
            · have hS : S i = .rt (.bl false) := if_neg ha
              rw [hS]
              rw [Bool.eq_false_iff.mpr ha] at tt
              exact st_stop (st_if tt (fun _ => st_ret e_bl) (fun q => nomatch q)) (fun _ q => nomatch q)) h1 h2
        cases hap : apL e r 0 xs with
        | true =>
          have hall := apL_iff.mp hap
          exact st_seq (loop (o := .nx (C xs.length)) (fun i hi => .inl ⟨_, .inl (if_pos (hall i hi)), Wk.keep (Wk.keep (Wk.keep (Wk.drop Wk.nil)))⟩) (fun _ => rfl)) (st_ret e_bl)
        | false =>
          refine st_stop (loop (o := .rt (.bl false)) (fun i hi => ?_) (fun hg => ?_)) (fun _ q => nomatch q)
          · by_cases ha : amongI (xs.getD i .non) (lstA r 0 xs i) e = true
            · exact .inl ⟨_, .inl (if_pos ha), Wk.keep (Wk.keep (Wk.keep (Wk.drop Wk.nil)))⟩
            · exact .inr (.inl ⟨_, if_neg ha, rfl⟩)
          · have : apL e r 0 xs = true := apL_iff.mpr fun i hi => by
              by_cases ha : amongI (xs.getD i .non) (lstA r 0 xs i) e = true
              · exact ha
              · obtain ⟨C', hq, _⟩ := hg i hi
                have hS : S i = .rt (.bl false) := if_neg ha
                rw [hS] at hq
                rcases hq with q | q <;> cases q
            rw [hap] at this
            cases this
      · rw [decide_eq_false hl, Bool.false_and]
        have t1' := t_is t1 (y := true) (by rw [decide_eq_false (by omega)]; rfl)
        exact st_stop (st_if t1' (fun _ => st_ret e_bl) (fun q => nomatch q)) (fun _ q => nomatch q)
    | _ => cases hL
  · have hf : isL x = false := Bool.eq_false_iff.mpr hL
    have hd : apD e r cr.length x = false := by
      cases x <;> first | rfl | (exact absurd rfl hL)
    rw [hd]
    exact st_guard (x := true) (t_is (t_or (y := false) (t_not (t_B (e_isL (e_var rfl) (sh_no hs)))) (fun q => by rw [hf] at q; cases q)) (by rw [hf]; rfl)) (fun _ => st_ret e_bl) (fun q => nomatch q)

theorem eqD_nil (l : List D) : eqD (.lst l) (.lst []) = l.isEmpty := by
  unfold eqD toP
  cases l with
  | nil =>
    unfold toPs PyData.eqv PyData.eqvAll
    rfl
  | cons x l =>
    unfold toPs PyData.eqv PyData.eqvAll
    rfl
theorem least_of : ∀ {ps : List Int}, ps ≠ [] → ∃ m ∈ ps, ∀ y ∈ ps, m ≤ y
  | [], h => absurd rfl h
  | [p], _ => ⟨p, List.mem_singleton.mpr rfl, fun y hy => by rw [List.mem_singleton.mp hy]; exact Int.le_refl p⟩
  | p :: q :: ps, _ => by
    obtain ⟨m, hm, hl⟩ := least_of (ps := q :: ps) (fun z => nomatch z)
    by_cases h : p ≤ m
    · refine ⟨p, List.mem_cons_self, fun y hy => ?_⟩
      rcases List.mem_cons.mp hy with z | z
      · rw [z]
        exact Int.le_refl p
      · exact Int.le_trans h (hl y z)
    · refine ⟨m, List.mem_cons_of_mem _ hm, fun y hy => ?_⟩
      rcases List.mem_cons.mp hy with z | z
      · rw [z]
        omega
      · exact hl y z
theorem most_of : ∀ {ps : List Int}, ps ≠ [] → ∃ m ∈ ps, ∀ y ∈ ps, y ≤ m
  | [], h => absurd rfl h
  | [p], _ => ⟨p, List.mem_singleton.mpr rfl, fun y hy => by rw [List.mem_singleton.mp hy]; exact Int.le_refl p⟩
  | p :: q :: ps, _ => by
    obtain ⟨m, hm, hl⟩ := most_of (ps := q :: ps) (fun z => nomatch z)
    by_cases h : m ≤ p
    · refine ⟨p, List.mem_cons_self, fun y hy => ?_⟩
      rcases List.mem_cons.mp hy with z | z
      · rw [z]
        exact Int.le_refl p
      · exact Int.le_trans (hl y z) h
    · refine ⟨m, List.mem_cons_of_mem _ hm, fun y hy => ?_⟩
      rcases List.mem_cons.mp hy with z | z
      · rw [z]
        omega
      · exact hl y z
def oddOne (d : D) : Bool := isB d || !isI d
theorem odd_not : ∀ {d : D} {a b : Int}, oddOne d = true → amongI d a b = false
  | .int i, a, b, h => by cases h
  | .non, _, _, _ => rfl
  | .bl _, _, _, _ => rfl
  | .str _, _, _, _ => rfl
  | .lst _, _, _, _ => rfl
  | .tup _, _, _, _ => rfl
  | .dic _, _, _, _ => rfl
  | .obj _ _, _, _, _ => rfl
  | .scr _, _, _, _ => rfl
  | .exc _, _, _, _ => rfl
theorem odd_int : ∀ {d : D}, oddOne d = false → ∃ i, d = .int i
  | .int i, _ => ⟨i, rfl⟩
  | .non, h => by cases h
  | .bl _, h => by cases h
  | .str _, h => by cases h
  | .lst _, h => by cases h
  | .tup _, h => by cases h
  | .dic _, h => by cases h
  | .obj _ _, h => by cases h
  | .scr _, h => by cases h
  | .exc _, h => by cases h
theorem all_ints : ∀ {xs : List D}, (∀ d ∈ xs, oddOne d = false) → ∃ ps : List Int, xs = ps.map D.int
  | [], _ => ⟨[], rfl⟩
  | x :: xs, h => by
    obtain ⟨i, rfl⟩ := odd_int (h x List.mem_cons_self)
    obtain ⟨ps, rfl⟩ := all_ints (xs := xs) fun d hd => h d (List.mem_cons_of_mem _ hd)
    exact ⟨i :: ps, rfl⟩
def nearF (ps : List Int) (r : Int) (d : D) : Bool := match d with
  | .int k => decide (ps.getD k.toNat 0 < ps.getD (k - 1).toNat 0 + r)
  | _ => false
theorem rd_l_are_apart (K : PySem.W.Frag) (Z : CF K A) {ds : List D} {d : D} (h : R_l_are_apart ds d) : StD K (t_l_are_apart K A) (args nm_l_are_apart.length ds) (.rt d) := by
  obtain ⟨e, r, cr, x, rfl, ok, hs, rfl⟩ := h
  have c1 := ok.c1
  have c2 := ok.c2
  have hlc : (cr.map crD).length = cr.length := List.length_map ..
  unfold t_l_are_apart
  refine st_seq (st_asg (e_var rfl) (g_tup (gs_cons g_name (gs_cons g_name (gs_cons g_name gs_nil))) rfl)) ?_
  show StD K _ [.dat (.tup [.int e, .int r, .lst (cr.map crD)]), .dat x, .dat (.int e), .dat (.int r), .dat (.lst (cr.map crD)), .no, .no] _
  by_cases hL : isL x = true
  · cases x with
    | scr ns => unfold shOk at hs; cases hs
    | lst xs =>
      have hxs : shOks xs = true := by
        unfold shOk at hs
        exact hs
      let G : List Sl := [.dat (.tup [.int e, .int r, .lst (cr.map crD)]), .dat (.lst xs), .dat (.int e), .dat (.int r), .dat (.lst (cr.map crD)), .no, .no]
      have t1 : EvTt K (tOr (tNot (tB (tCB (rIsi K) (tCons (tVar 1) (tCons (tC (.ty "list")) tNil))))) (tTest (tOp (gNe K) (tCB (rLen K) (tCons (tVar 1) tNil)) (tCB (rLen K) (tCons (tVar 4) tNil))))) G (!decide ((xs.length : Int) = (cr.length : Int))) :=
        t_is (t_or (t_not (t_B (e_isL (e_var rfl) rfl))) (fun _ => t_test (e_op (e_cb (s_cons (e_var rfl) s_nil) n_lenL) (e_is (e_cb (s_cons (e_var rfl) s_nil) n_lenL) (by rw [hlc])) d_neI))) (by rfl)
      show StD K _ _ (.rt (.bl (decide (xs.length = cr.length) && apL e r 0 xs)))
      by_cases hl : xs.length = cr.length
      · rw [decide_eq_true hl]
        have t1' := t_is t1 (y := false) (by rw [decide_eq_true (by omega)]; rfl)
        refine st_pass t1' ?_
        have flt : EvD K (tLc (iList K (tVar 1)) (gName 5) (tOr (tB (tCB (rIsi K) (tCons (tVar 5) (tCons (tC (.ty "bool")) tNil)))) (tNot (tB (tCB (rIsi K) (tCons (tVar 5) (tCons (tC (.ty "int")) tNil)))))) (tVar 5) [5]) G (.lst (xs.filter oddOne)) :=
          e_is (e_share (o_lcF oddOne (fun d => d) (it_list (e_var rfl)) (by omega) (fun d hd => t_or (t_B (e_isB (e_var rfl) (sh_no (sh_mem hxs d hd)))) (fun _ => t_not (t_B (e_isI (e_var rfl) (sh_no (sh_mem hxs d hd)))))) (fun d hd _ => e_var rfl))) (by rw [List.map_id'])
        by_cases hO : xs.filter oddOne = []
        · rw [hO] at flt
          have t2 := t_test (e_op flt (e_share (o_lst s_nil (by show 0 ≤ 100000; decide))) (d_sameN (K := K) (n := 1) (d := .lst []) (by unfold okD; rfl) (by decide)))
          refine st_pass t2 ?_
          have hno : ∀ d ∈ xs, oddOne d = false := fun d hd => by
            by_cases q : oddOne d = true
            · have : d ∈ xs.filter oddOne := List.mem_filter.mpr ⟨hd, q⟩
              rw [hO] at this
              cases this
            · exact Bool.eq_false_iff.mpr q
          obtain ⟨ps, rfl⟩ := all_ints hno
          have hlp : (ps.map D.int).length = ps.length := List.length_map ..
          have hne : ps ≠ [] := fun z => by
            subst z
            rw [hlp] at hl
            have : ([] : List Int).length = 0 := rfl
            omega
          obtain ⟨m, hm1, hm2⟩ := least_of hne
          obtain ⟨M, hM1, hM2⟩ := most_of hne
          have t3 : EvTt K (tOr (tTest (tOp (gLt) (tCB (gMin K) (tCons (tVar 1) tNil)) (tC (.int 0)))) (tTest (tOp (gGt) (tCB (gMax K) (tCons (tVar 1) tNil)) (tVar 2)))) G (decide (m < 0) || decide (e < M)) :=
            t_or (t_test (e_op (e_cb (s_cons (e_var rfl) s_nil) (n_minL hm1 hm2)) e_int d_ltI)) (fun _ => t_test (e_op (e_cb (s_cons (e_var rfl) s_nil) (n_maxL hM1 hM2)) (e_var rfl) d_gtI))
          have hr0 : 0 ≤ r := by
            have := ok.r1
            omega
          have key := apL_ints (e := e) (ps := ps) hr0
          by_cases hb : m < 0 ∨ e < M
          · have t3' := t_is t3 (y := true) (by rw [Bool.or_eq_true, decide_eq_true_iff, decide_eq_true_iff]; exact hb)
            have hf : apL e r 0 (ps.map D.int) = false := Bool.eq_false_iff.mpr fun q => by
              have k1 := (key.mp q).1
              rcases hb with hb | hb
              · obtain ⟨i, hi, e1⟩ := List.getElem_of_mem hm1
                have := k1 i hi
                rw [List.getD_eq_getElem?_getD, List.getElem?_eq_getElem hi, e1] at this
                have : 0 ≤ m ∧ m ≤ e := this
                omega
              · obtain ⟨i, hi, e1⟩ := List.getElem_of_mem hM1
                have := k1 i hi
                rw [List.getD_eq_getElem?_getD, List.getElem?_eq_getElem hi, e1] at this
                have : 0 ≤ M ∧ M ≤ e := this
                omega
            rw [hf]
            exact st_stop (st_if t3' (fun _ => st_ret e_bl) (fun q => nomatch q)) (fun _ q => nomatch q)
          · have t3' := t_is t3 (y := false) (by rw [Bool.or_eq_false_iff, decide_eq_false_iff_not, decide_eq_false_iff_not]; omega)
            refine st_pass t3' ?_
            have near : EvD K (tLc (iRng2 (tCons (tC (.int 1)) (tCons (tCB (rLen K) (tCons (tVar 1) tNil)) tNil))) (gName 6) (tTest (tOp (gLt) (tOp (gIx K) (tVar 1) (tVar 6)) (tOp (gAdd K) (tOp (gIx K) (tVar 1) (tOp (gSub) (tVar 6) (tC (.int 1)))) (tVar 3)))) (tVar 6) [6]) G (.lst ((rngD 1 ((ps.length : Int) - 1).toNat).filter (nearF ps r))) := by
              refine e_is (e_share (o_lcF (nearF ps r) (fun d => d) (it_rng2 (n := (ps.length : Int)) (s_cons e_int (s_cons (e_is (e_cb (s_cons (e_var rfl) s_nil) n_lenL) (by rw [hlp])) s_nil)) (by omega)) (by rw [rg_len]; omega) (fun d hd => ?_) (fun d hd _ => e_var rfl))) (by rw [List.map_id'])
              obtain ⟨i, hi, e1⟩ := List.getElem_of_mem hd
              have hg : (rngD 1 ((ps.length : Int) - 1).toNat)[i]? = some d := by rw [List.getElem?_eq_getElem hi, e1]
              obtain ⟨hlt, rfl⟩ := rg_get hg
              exact t_test (e_op (e_op (e_var rfl) (e_var rfl) (d_ixI (by omega) (by omega))) (e_op (e_op (e_var rfl) (e_op (e_var rfl) e_int d_subI) (d_ixI (by omega) (by omega))) (e_var rfl) d_addI) d_ltI)
            have okn : okEq (.lst ((rngD 1 ((ps.length : Int) - 1).toNat).filter (nearF ps r))) = true := ok_eq (n := 1) (by
              unfold okD
              refine List.all_eq_true.mpr fun d hd => ?_
              obtain ⟨i, hi, e1⟩ := List.getElem_of_mem (List.mem_filter.mp hd).1
              have hg : (rngD 1 ((ps.length : Int) - 1).toNat)[i]? = some d := by rw [List.getElem?_eq_getElem hi, e1]
              obtain ⟨_, rfl⟩ := rg_get hg
              rfl) (by decide)
            refine st_ret (e_is (e_op near (e_share (o_lst s_nil (by show 0 ≤ 100000; decide))) (d_eqD okn ok_nil)) ?_)
            rw [eqD_nil]
            congr 1
            rw [Bool.true_and, Bool.eq_iff_iff, List.isEmpty_iff, key]
            constructor
            · intro hE
              refine ⟨fun i hi => ?_, fun i hi => ?_⟩
              · have hmem : ps.getD i 0 ∈ ps := getD_in (0 : Int) ps i hi
                have := hm2 _ hmem
                have := hM2 _ hmem
                omega
              · by_cases q : ps.getD i 0 + r ≤ ps.getD (i + 1) 0
                · exact q
                · have : D.int (1 + (i : Int)) ∈ (rngD 1 ((ps.length : Int) - 1).toNat).filter (nearF ps r) := by
                    refine List.mem_filter.mpr ⟨List.mem_map.mpr ⟨i, List.mem_range.mpr (by omega), rfl⟩, ?_⟩
                    show decide (ps.getD (1 + (i : Int)).toNat 0 < ps.getD (1 + (i : Int) - 1).toNat 0 + r) = true
                    rw [show (1 + (i : Int)).toNat = i + 1 by omega, show (1 + (i : Int) - 1).toNat = i by omega]
                    exact decide_eq_true (by omega)
                  rw [hE] at this
                  cases this
            · rintro ⟨k1, k2⟩
              refine List.filter_eq_nil_iff.mpr fun d hd => ?_
              obtain ⟨i, hi, rfl⟩ := List.mem_map.mp hd
              have hi' := List.mem_range.mp hi
              show ¬ decide (ps.getD (1 + (i : Int)).toNat 0 < ps.getD (1 + (i : Int) - 1).toNat 0 + r) = true
              rw [show (1 + (i : Int)).toNat = i + 1 by omega, show (1 + (i : Int) - 1).toNat = i by omega, decide_eq_true_iff]
              have := k2 i (by omega)
              omega
        · have hlen : (xs.filter oddOne).length ≠ ([] : List D).length := fun z => hO (List.length_eq_zero_iff.mp z)
          have t2 := t_test (e_op flt (e_share (o_lst s_nil (by show 0 ≤ 100000; decide))) (d_neLen (K := K) hlen))
          have hf : apL e r 0 xs = false := Bool.eq_false_iff.mpr fun q => by
            obtain ⟨d, hd⟩ := List.exists_mem_of_ne_nil _ hO
            obtain ⟨h1, h2⟩ := List.mem_filter.mp hd
            obtain ⟨i, hi, e1⟩ := List.getElem_of_mem h1
            have := apL_iff.mp q i hi
            rw [List.getD_eq_getElem?_getD, List.getElem?_eq_getElem hi, e1] at this
            have h3 : amongI d (lstA r 0 xs i) e = true := this
            rw [odd_not h2] at h3
            cases h3
          rw [hf]
          exact st_stop (st_if t2 (fun _ => st_ret e_bl) (fun q => nomatch q)) (fun _ q => nomatch q)
      · rw [decide_eq_false hl, Bool.false_and]
        have t1' := t_is t1 (y := true) (by rw [decide_eq_false (by omega)]; rfl)
        exact st_stop (st_if t1' (fun _ => st_ret e_bl) (fun q => nomatch q)) (fun _ q => nomatch q)
    | _ => cases hL
  · have hf : isL x = false := Bool.eq_false_iff.mpr hL
    have hd : apD e r cr.length x = false := by
      cases x <;> first | rfl | (exact absurd rfl hL)
    rw [hd]
    exact st_guard (x := true) (t_is (t_or (y := false) (t_not (t_B (e_isL (e_var rfl) (sh_no hs)))) (fun q => by rw [hf] at q; cases q)) (by rw [hf]; rfl)) (fun _ => st_ret e_bl) (fun q => nomatch q)

theorem rd_l_spread (K : PySem.W.Frag) (Z : CF K A) {ds : List D} {d : D} (h : R_l_spread ds d) : StD K (t_l_spread K A) (args nm_l_spread.length ds) (.rt d) := by
  obtain ⟨ns, t, e, r, cr, rfl, ht, hl, ok, rfl⟩ := h
  have c1 := ok.c1
  have c2 := ok.c2
  have r1 := ok.r1
  have r2 := ok.r2
  have e2 := ok.e2
  have fit := ok.fit
  have hlc : (cr.map crD).length = cr.length := List.length_map ..
  generalize hl0 : e - ((cr.length : Int) - 1) * r = l0
  have h0 : 0 ≤ l0 := by omega
  unfold t_l_spread
  refine st_seq (st_asg (e_var rfl) (g_tup (gs_cons g_name (gs_cons g_name (gs_cons g_name gs_nil))) rfl)) ?_
  refine st_seq (st_asg (d := .int l0) (e_is (e_op (e_var rfl) (e_op (e_op (e_cb (s_cons (e_var rfl) s_nil) n_lenL) e_int d_subI) (e_var rfl) (d_mulI (Or.inr (by omega)))) d_subI) (by rw [hlc, hl0])) g_name) ?_
  refine st_seq (st_asgO (o_lst s_nil (by show 0 ≤ 100000; decide))) (st_seq (st_asg e_int g_name) ?_)
  let C : Nat → List Sl := fun i => [.dat (.scr ns), .dat (.int t), .dat (.tup [.int e, .int r, .lst (cr.map crD)]), .dat (.int e), .dat (.int r), .dat (.lst (cr.map crD)), .dat (.int (spA ns t r l0 i).1), .own (.lst (((List.range i).map (plcF ns t r l0)).map D.int)), .dat (.int (spA ns t r l0 i).2), .no, .no, .no]
  refine st_seq (G1 := C cr.length) (st_for (it_rng1 (n := (cr.length : Int)) (s_cons (e_is (e_cb (s_cons (e_var rfl) s_nil) n_lenL) (by rw [hlc])) s_nil) (by omega)) C rfl (fun i => (C i).set 9 (.dat (.int (i : Int)))) (fun i d hd => ?_)
    (fun i => .nx ((((C (i + 1)).set 9 (.dat (.int (i : Int)))).set 10 (.dat (.int (nb ns (t + (i : Int)))))).set 11 (.dat (.int (moreV (nb ns (t + (i : Int))) (spA ns t r l0 i).1))))) (fun i hi _ => ?_) (fun i hi => .inl ⟨_, .inl rfl, Wk.keep (Wk.keep (Wk.keep (Wk.keep (Wk.keep (Wk.keep (Wk.keep (Wk.keep (Wk.keep (Wk.drop (Wk.drop (Wk.drop Wk.nil)))))))))))⟩) (fun _ => by rw [rg_len]; rfl)) ?_
  · obtain ⟨_, rfl⟩ := rg_get hd
    rw [Int.zero_add]
    exact g_name
  · rw [rg_len] at hi
    refine st_seq (st_asg (d := .int (nb ns (t + (i : Int)))) (e_nb rfl (e_op (e_var rfl) (e_var rfl) d_addI) (by omega) hl) g_name) ?_
    obtain ⟨a, b, c⟩ := spA_in (ns := ns) (t := t) h0 (by omega : 0 ≤ r) i
    have hq : (i : Int) * r ≤ 5 * 1000000 := Int.mul_le_mul (by omega) r2 (by omega) (by decide)
    have q0 : 0 ≤ ((cr.length : Int) - 1) * r := Int.mul_nonneg (by omega) (by omega)
    generalize hc : nb ns (t + (i : Int)) = cc
    have hm : (spA ns t r l0 (i + 1)).1 = (spA ns t r l0 i).1 - moreV cc (spA ns t r l0 i).1 := by rw [← hc]; rfl
    have hm2 : (spA ns t r l0 (i + 1)).2 = (spA ns t r l0 i).2 + moreV cc (spA ns t r l0 i).1 + r := by rw [← hc]; rfl
    have hp : plcF ns t r l0 i = (spA ns t r l0 i).2 + moreV cc (spA ns t r l0 i).1 := by rw [← hc]; rfl
    show StD K _ [.dat (.scr ns), .dat (.int t), .dat (.tup [.int e, .int r, .lst (cr.map crD)]), .dat (.int e), .dat (.int r), .dat (.lst (cr.map crD)), .dat (.int (spA ns t r l0 i).1), .own (.lst (((List.range i).map (plcF ns t r l0)).map D.int)), .dat (.int (spA ns t r l0 i).2), .dat (.int (i : Int)), .dat (.int cc), .no] (.nx [.dat (.scr ns), .dat (.int t), .dat (.tup [.int e, .int r, .lst (cr.map crD)]), .dat (.int e), .dat (.int r), .dat (.lst (cr.map crD)), .dat (.int (spA ns t r l0 (i + 1)).1), .own (.lst (((List.range (i + 1)).map (plcF ns t r l0)).map D.int)), .dat (.int (spA ns t r l0 (i + 1)).2), .dat (.int (i : Int)), .dat (.int cc), .dat (.int (moreV cc (spA ns t r l0 i).1))])
    rw [hm, hm2]
    have el : ((List.range (i + 1)).map (plcF ns t r l0)).map D.int = ((List.range i).map (plcF ns t r l0)).map D.int ++ [.int ((spA ns t r l0 i).2 + moreV cc (spA ns t r l0 i).1)] := by
      rw [List.range_succ, List.map_append, List.map_append, ← hp]
      rfl
    rw [el]
    have ll : (((List.range i).map (plcF ns t r l0)).map D.int).length < 100000 := by
      rw [List.length_map, List.length_map, List.length_range]
      omega
    generalize ((List.range i).map (plcF ns t r l0)).map D.int = L at ll
    generalize (spA ns t r l0 i).1 = lf at *
    generalize (spA ns t r l0 i).2 = pl at *
    have q4 : ∀ {G : List Sl}, G[10]? = some (.dat (.int cc)) → EvD K (tOp (gFdv) (tVar 10) (tC (.int 4))) G (.int (cc / 4)) := fun h => e_op (e_var h) e_int (d_fdv (by decide) (by decide))
    refine st_seq (st_asg (d := .int (moreV cc lf)) (e_op (e_is (b := .lst ((spL4 cc lf).map D.int)) (e_share (o_lst (ds := [.int 0, .int (cc / 4 % (lf + 1)), .int (min lf (cc / 4 % 5)), .int lf]) (s_cons e_int (s_cons (e_op (q4 rfl) (e_op (e_var rfl) e_int d_addI) (d_mod (by omega))) (s_cons (e_cb (s_cons (e_var rfl) (s_cons (e_op (q4 rfl) e_int (d_mod (by decide))) s_nil)) n_min2) (s_cons (e_var rfl) s_nil)))) (by show 4 ≤ 100000; decide))) rfl) (e_op (e_var rfl) e_int (d_mod (by decide))) (d_ixI (Int.emod_nonneg _ (by decide)) (Int.emod_lt_of_pos _ (by decide)))) g_name) ?_
    refine st_seq (st_asg (e_op (e_var rfl) (e_var rfl) d_subI) g_name) (st_seq (st_asg (e_op (e_var rfl) (e_var rfl) d_addI) g_name) (st_seq (st_app (i := 7) (d := .int (pl + moreV cc lf)) rfl (e_var rfl) ll) (st_asg (e_op (e_var rfl) (e_var rfl) d_addI) g_name)))
  refine st_freeze (i := 7) rfl (st_ret (e_is (e_var rfl) ?_))
  unfold plcs
  rw [hl0]
  rfl
theorem sma_ints {ps : List Int} (h : ∀ p ∈ ps, 0 ≤ p ∧ p ≤ 2000000000000) : SmA 1 200 (ps.map D.int) := fun d hd => by
  obtain ⟨p, hp, rfl⟩ := List.mem_map.mp hd
  have := h p hp
  exact (sm_int (by omega)).mono (by decide) (by decide)
theorem bent_ex (K : PySem.W.Frag) {ps : List Int} {c e : Int} (hn : 1 ≤ ps.length ∧ ps.length ≤ 6) (hp : ∀ p ∈ ps, 0 ≤ p ∧ p ≤ 2000000000000) (he : 0 ≤ e ∧ e ≤ 1000000000000) : ∃ d, Sm 5 60003 d ∧ StD K (t_l_bent K A) (args nm_l_bent.length [.lst (ps.map D.int), .int c, .int e]) (.rt d) := by
  have hl : (ps.map D.int).length = ps.length := List.length_map ..
  have sl := sma_ints hp
  have a0 : 0 ≤ c / 16 % (ps.length : Int) := Int.emod_nonneg _ (by omega)
  have a1 : c / 16 % (ps.length : Int) < (ps.length : Int) := Int.emod_lt_of_pos _ (by omega)
  generalize hat : c / 16 % (ps.length : Int) = at' at a0 a1
  have s0 : 0 ≤ c / 100 % 3 := Int.emod_nonneg _ (by decide)
  have s3 : c / 100 % 3 < 3 := Int.emod_lt_of_pos _ (by decide)
  have y0 : 0 ≤ c / 100 % 40 := Int.emod_nonneg _ (by decide)
  have y3 : c / 100 % 40 < 40 := Int.emod_lt_of_pos _ (by decide)
  have o0 : 0 ≤ c / 300 % 9 := Int.emod_nonneg _ (by decide)
  have o9 : c / 300 % 9 < 9 := Int.emod_lt_of_pos _ (by decide)
  have f0 : 0 ≤ c % 5 := Int.emod_nonneg _ (by decide)
  have f5 : c % 5 < 5 := Int.emod_lt_of_pos _ (by decide)
  have b0 : 0 ≤ c % 2 := Int.emod_nonneg _ (by decide)
  have b2 : c % 2 < 2 := Int.emod_lt_of_pos _ (by decide)
  have hq := hp _ (getD_in (0 : Int) ps at'.toNat (by omega))
  have hix : ∀ {G : List Sl}, G[0]? = some (.dat (.lst (ps.map D.int))) → G[3]? = some (.dat (.int at')) → EvD K (tOp (gIx K) (tVar 0) (tVar 3)) G (.int (ps.getD at'.toNat 0)) := fun h1 h2 => e_op (e_var h1) (e_var h2) (d_ixI a0 a1)
  generalize ps.getD at'.toNat 0 = q at hq hix
  have sq : Sm 1 200 (.int q) := (sm_int (by omega)).mono (by decide) (by decide)
  let L : List D := [.non, .bl true, .str "1", .int (-1), .int (e + 1 + c / 100 % 40), .lst [.int q], .tup [.int q], .bl false, .dic []]
  have sL : SmA 1 200 L := by
    intro d hd
    simp only [L, List.mem_cons, List.not_mem_nil, or_false] at hd
    rcases hd with rfl | rfl | rfl | rfl | rfl | rfl | rfl | rfl | rfl
    · exact sm_non.mono (by decide) (by decide)
    · exact sm_bl.mono (by decide) (by decide)
    · exact sm_s1.mono (by decide) (by decide)
    · exact (sm_int (by decide)).mono (by decide) (by decide)
    · exact (sm_int (by omega)).mono (by decide) (by decide)
    · exact (sm_lst (k := 1) (.cons (sm_int (by omega)) .nil) (by show 1 ≤ 1; decide)).mono (by decide) (by decide)
    · exact (sm_tup (k := 1) (.cons (sm_int (by omega)) .nil) (by show 1 ≤ 1; decide)).mono (by decide) (by decide)
    · exact sm_bl.mono (by decide) (by decide)
    · exact sm_dic.mono (by decide) (by decide)
  have sO : Sm 1 200 (L.getD (c / 300 % 9).toNat .non) := sL _ (getD_in D.non L (c / 300 % 9).toNat (by show (c / 300 % 9).toNat < 9; omega))
  let G3 : List Sl := [.dat (.lst (ps.map D.int)), .dat (.int c), .dat (.int e), .dat (.int at'), .dat (.int (1 + c / 100 % 3)), .no, .no]
  have eL : EvD K (tOp (gIx K) (tLst (tCons (tC .non) (tCons (tC (.bl true)) (tCons (tC (.str ("1" : Str))) (tCons (tUn (rU fun i => .int (-i)) (tC (.int 1))) (tCons (tOp (gAdd K) (tOp (gAdd K) (tVar 2) (tC (.int 1))) (tOp (gMod) (tOp (gFdv) (tVar 1) (tC (.int 100))) (tC (.int 40)))) (tCons (tLst (tCons (tOp (gIx K) (tVar 0) (tVar 3)) tNil)) (tCons (tTup (tCons (tOp (gIx K) (tVar 0) (tVar 3)) tNil)) (tCons (tC (.bl false)) (tCons (tDNewK) tNil)))))))))) (tOp (gMod) (tOp (gFdv) (tVar 1) (tC (.int 300))) (tC (.int 9)))) G3 (L.getD (c / 300 % 9).toNat .non) :=
    e_op (e_share (o_lst (ds := L) (s_cons e_none (s_cons e_bl (s_cons e_str (s_cons (e_un e_int op1_neg) (s_cons (e_op (e_op (e_var rfl) e_int d_addI) (e_op (e_op (e_var rfl) e_int (d_fdv (by decide) (by decide))) e_int (d_mod (by decide))) d_addI) (s_cons (e_share (o_lst (s_cons (hix rfl rfl) s_nil) (by show 1 ≤ 100000; decide))) (s_cons (e_tup (s_cons (hix rfl rfl) s_nil) (by show 1 ≤ 100000; decide)) (s_cons e_bl (s_cons e_dnew s_nil))))))))) (by show 9 ≤ 100000; decide))) (e_op (e_op (e_var rfl) e_int (d_fdv (by decide) (by decide))) e_int (d_mod (by decide))) (d_ixLn o0 o9)
  generalize hO : L.getD (c / 300 % 9).toNat .non = odd at sO eL
  let M : List D := [.int (q - (1 + c / 100 % 3)), .int (q + (1 + c / 100 % 3)), odd, .int (q - 1), .int (q + 1)]
  have sM : SmA 1 200 M := by
    intro d hd
    simp only [M, List.mem_cons, List.not_mem_nil, or_false] at hd
    rcases hd with rfl | rfl | rfl | rfl | rfl
    · exact (sm_int (by omega)).mono (by decide) (by decide)
    · exact (sm_int (by omega)).mono (by decide) (by decide)
    · exact sO
    · exact (sm_int (by omega)).mono (by decide) (by decide)
    · exact (sm_int (by omega)).mono (by decide) (by decide)
  have sP : Sm 1 200 (M.getD (c % 5).toNat .non) := sM _ (getD_in D.non M (c % 5).toNat (by show (c % 5).toNat < 5; omega))
  let G5 : List Sl := [.dat (.lst (ps.map D.int)), .dat (.int c), .dat (.int e), .dat (.int at'), .dat (.int (1 + c / 100 % 3)), .dat odd, .dat (.lst M)]
  have start : ∀ {tw : TS} {o : Out}, StD K tw G5 o → StD K (tSeq (tAsg (tOp (gMod) (tOp (gFdv) (tVar 1) (tC (.int 16))) (tCB (rLen K) (tCons (tVar 0) tNil))) (gName 3))
  (tSeq (tAsg (tOp (gAdd K) (tC (.int 1)) (tOp (gMod) (tOp (gFdv) (tVar 1) (tC (.int 100))) (tC (.int 3)))) (gName 4))
  (tSeq (tAsg (tOp (gIx K) (tLst (tCons (tC .non) (tCons (tC (.bl true)) (tCons (tC (.str ("1" : Str))) (tCons (tUn (rU fun i => .int (-i)) (tC (.int 1))) (tCons (tOp (gAdd K) (tOp (gAdd K) (tVar 2) (tC (.int 1))) (tOp (gMod) (tOp (gFdv) (tVar 1) (tC (.int 100))) (tC (.int 40)))) (tCons (tLst (tCons (tOp (gIx K) (tVar 0) (tVar 3)) tNil)) (tCons (tTup (tCons (tOp (gIx K) (tVar 0) (tVar 3)) tNil)) (tCons (tC (.bl false)) (tCons (tDNewK) tNil)))))))))) (tOp (gMod) (tOp (gFdv) (tVar 1) (tC (.int 300))) (tC (.int 9)))) (gName 5))
  (tSeq (tAsg (tLst (tCons (tOp (gSub) (tOp (gIx K) (tVar 0) (tVar 3)) (tVar 4)) (tCons (tOp (gAdd K) (tOp (gIx K) (tVar 0) (tVar 3)) (tVar 4)) (tCons (tVar 5) (tCons (tOp (gSub) (tOp (gIx K) (tVar 0) (tVar 3)) (tC (.int 1))) (tCons (tOp (gAdd K) (tOp (gIx K) (tVar 0) (tVar 3)) (tC (.int 1))) tNil)))))) (gName 6)) tw)))) (args nm_l_bent.length [.lst (ps.map D.int), .int c, .int e]) o := fun h =>
    st_seq (st_asg (d := .int at') (e_is (e_op (e_op (e_var rfl) e_int (d_fdv (by decide) (by decide))) (e_is (e_cb (s_cons (e_var rfl) s_nil) n_lenL) (by rw [hl])) (d_mod (by omega))) (by rw [hat])) g_name)
      (st_seq (st_asg (e_op e_int (e_op (e_op (e_var rfl) e_int (d_fdv (by decide) (by decide))) e_int (d_mod (by decide))) d_addI) g_name)
      (st_seq (st_asg (d := odd) eL g_name)
      (st_seq (st_asg (d := .lst M) (e_share (o_lst (ds := M) (s_cons (e_op (hix rfl rfl) (e_var rfl) d_subI) (s_cons (e_op (hix rfl rfl) (e_var rfl) d_addI) (s_cons (e_var rfl) (s_cons (e_op (hix rfl rfl) e_int d_subI) (s_cons (e_op (hix rfl rfl) e_int d_addI) s_nil))))) (by show 5 ≤ 100000; decide))) g_name) h)))
  have tlt : ∀ n : Int, EvTt K (tTest (tOp (gLt) (tOp (gMod) (tVar 1) (tC (.int 16))) (tC (.int n)))) G5 (decide (c % 16 < n)) := fun n => t_test (e_op (e_op (e_var rfl) e_int (d_mod (by decide))) e_int d_ltI)
  have front : EvD K (tSl (gSl K) (tVar 0) tNoPart (tPart (tVar 3))) G5 (.lst (cutD (ps.map D.int) none (some at'))) := e_share (o_sl (e_var rfl) p_none (p_some (e_var rfl)))
  have back1 : EvD K (tSl (gSl K) (tVar 0) (tPart (tOp (gAdd K) (tVar 3) (tC (.int 1)))) tNoPart) G5 (.lst (cutD (ps.map D.int) (some (at' + 1)) none)) := e_share (o_sl (e_var rfl) (p_some (e_op (e_var rfl) e_int d_addI)) p_none)
  have back0 : EvD K (tSl (gSl K) (tVar 0) (tPart (tVar 3)) tNoPart) G5 (.lst (cutD (ps.map D.int) (some at') none)) := e_share (o_sl (e_var rfl) (p_some (e_var rfl)) p_none)
  have k1 : (cutD (ps.map D.int) none (some at')).length ≤ 6 := Nat.le_trans cut_len (by omega)
  have k2 : (cutD (ps.map D.int) (some (at' + 1)) none).length ≤ 6 := Nat.le_trans cut_len (by omega)
  have k3 : (cutD (ps.map D.int) (some at') none).length ≤ 6 := Nat.le_trans cut_len (by omega)
  have big : ∀ {xs : List D}, SmA 1 200 xs → xs.length ≤ 14 → Sm 5 60003 (.lst xs) := fun h hk => (sm_lst (k := 14) h hk).mono (by decide) (by decide)
  by_cases h10 : c % 16 < 10
  · refine ⟨.lst ((cutD (ps.map D.int) none (some at') ++ [M.getD (c % 5).toNat .non]) ++ cutD (ps.map D.int) (some (at' + 1)) none), big (.app (.app (fun d hd => sl d (cut_sub hd)) (.cons sP .nil)) (fun d hd => sl d (cut_sub hd))) (by rw [List.length_append, List.length_append, List.length_singleton]; omega), ?_⟩
    unfold t_l_bent
    exact start (st_fire (t_is (tlt 10) (decide_eq_true h10)) (st_ret (e_cat (e_cat front (e_share (o_lst (s_cons (e_op (e_var rfl) (e_op (e_var rfl) e_int (d_mod (by decide))) (d_ixLn f0 f5)) s_nil) (by show 1 ≤ 100000; decide))) (by show _ + 1 ≤ 100000; omega)) back1 (by rw [List.length_append, List.length_singleton]; omega))) (fun _ q => nomatch q))
  by_cases h12 : c % 16 < 12
  · refine ⟨.lst (cutD (ps.map D.int) none (some at') ++ cutD (ps.map D.int) (some (at' + 1)) none), big (.app (fun d hd => sl d (cut_sub hd)) (fun d hd => sl d (cut_sub hd))) (by rw [List.length_append]; omega), ?_⟩
    unfold t_l_bent
    exact start (st_pass (t_is (tlt 10) (decide_eq_false h10)) (st_fire (t_is (tlt 12) (decide_eq_true h12)) (st_ret (e_cat front back1 (by omega))) (fun _ q => nomatch q)))
  by_cases h14 : c % 16 < 14
  · refine ⟨.lst ((cutD (ps.map D.int) none (some at') ++ [.int q]) ++ cutD (ps.map D.int) (some at') none), big (.app (.app (fun d hd => sl d (cut_sub hd)) (.cons sq .nil)) (fun d hd => sl d (cut_sub hd))) (by rw [List.length_append, List.length_append, List.length_singleton]; omega), ?_⟩
    unfold t_l_bent
    exact start (st_pass (t_is (tlt 10) (decide_eq_false h10)) (st_pass (t_is (tlt 12) (decide_eq_false h12)) (st_fire (t_is (tlt 14) (decide_eq_true h14)) (st_ret (e_cat (e_cat front (e_share (o_lst (s_cons (hix rfl rfl) s_nil) (by show 1 ≤ 100000; decide))) (by show _ + 1 ≤ 100000; omega)) back0 (by rw [List.length_append, List.length_singleton]; omega))) (fun _ q => nomatch q))))
  · let N : List D := [.tup (ps.map D.int), .lst (ps.map D.int).reverse]
    have hN : ∀ d ∈ N, Sm 5 60003 d := by
      intro d hd
      simp only [N, List.mem_cons, List.not_mem_nil, or_false] at hd
      rcases hd with rfl | rfl
      · exact (sm_tup (k := 6) sl (by omega)).mono (by decide) (by decide)
      · exact big (fun d hd => sl d (List.mem_reverse.mp hd)) (by rw [List.length_reverse]; omega)
    refine ⟨N.getD (c % 2).toNat .non, hN _ (getD_in D.non N (c % 2).toNat (by show (c % 2).toNat < 2; omega)), ?_⟩
    unfold t_l_bent
    exact start (st_pass (t_is (tlt 10) (decide_eq_false h10)) (st_pass (t_is (tlt 12) (decide_eq_false h12)) (st_pass (t_is (tlt 14) (decide_eq_false h14)) (st_ret (e_op (e_share (o_lst (ds := N) (s_cons (e_cb (s_cons (e_var rfl) s_nil) n_tupL) (s_cons (e_share (o_revL (e_var rfl))) s_nil)) (by show 2 ≤ 100000; decide))) (e_op (e_var rfl) e_int (d_mod (by decide))) (d_ixLn b0 b2))))))
theorem rd_l_bent (K : PySem.W.Frag) (Z : CF K A) {ds : List D} {d : D} (h : R_l_bent K A ds d) : StD K (t_l_bent K A) (args nm_l_bent.length ds) (.rt d) := h.2

theorem rd_l_no_crane (K : PySem.W.Frag) (Z : CF K A) {ds : List D} {d : D} (h : R_l_no_crane A ds d) : StD K (t_l_no_crane K A) (args nm_l_no_crane.length ds) (.rt d) := by
  obtain ⟨e, r, cr, x, rfl, hs, hf, rfl⟩ := h
  unfold t_l_no_crane
  refine st_seq (st_asg e_none g_name) (st_seq (st_try_exc (C := A.c_NoCrane) (by decide) (rs_meth (fs := railFs e r cr) (e_var rfl) rfl (s_cons (e_var rfl) s_nil) ⟨e, r, cr, x, rfl, hs, hf, rfl⟩) Z.m_NoCrane (by show 3 < 4; decide)) (st_ret ?_))
  refine e_is (e_andV (e_op (e_var rfl) e_none d_niN) (fun _ => e_op (e_call (s_cons (e_var rfl) s_nil) ⟨rfl, rfl⟩) e_str d_eqS)) ?_
  rw [decide_eq_true rfl]
  rfl
def dueD (e r : Int) (n : Nat) (d : D) : D := match d with
  | .int k => .tup [.int (k * r), .int (e - ((n : Int) - 1 - k) * r)]
  | _ => .non
def dueL (e r : Int) (n : Nat) : List D := (rngD 0 n).map (dueD e r n)
theorem due_get {e r : Int} {n : Nat} {d : D} (h : d ∈ dueL e r n) : ∃ k : Nat, k < n ∧ d = .tup [.int ((k : Int) * r), .int (e - ((n : Int) - 1 - (k : Int)) * r)] := by
  obtain ⟨x, hx, rfl⟩ := List.mem_map.mp h
  obtain ⟨i, hi, e1⟩ := List.getElem_of_mem hx
  have hg : (rngD 0 n)[i]? = some x := by rw [List.getElem?_eq_getElem hi, e1]
  obtain ⟨hlt, rfl⟩ := rg_get hg
  refine ⟨i, hlt, ?_⟩
  rw [Int.zero_add]
  rfl
theorem due_len {e r : Int} {n : Nat} : (dueL e r n).length = n := by
  unfold dueL
  rw [List.length_map, rg_len]
/-- both ends of all reaches are apart -/
theorem low_apart {e r : Int} {cr : List (Int × Int)} (ok : RailOk e r cr) : apL e r 0 (((List.range cr.length).map fun (k : Nat) => (k : Int) * r).map D.int) = true := by
  have r1 := ok.r1
  have fit := ok.fit
  refine (apL_ints (by omega)).mpr ⟨fun i hi => ?_, fun i hi => ?_⟩
  · rw [List.length_map, List.length_range] at hi
    have hg : ((List.range cr.length).map fun (k : Nat) => (k : Int) * r).getD i 0 = (i : Int) * r := by
      rw [List.getD_eq_getElem?_getD, List.getElem?_map, List.getElem?_range hi]
      rfl
    rw [hg]
    refine ⟨Int.mul_nonneg (by omega) (by omega), ?_⟩
    have : (i : Int) * r ≤ ((cr.length : Int) - 1) * r := Int.mul_le_mul_of_nonneg_right (by omega) (by omega)
    omega
  · rw [List.length_map, List.length_range] at hi
    have hg : ∀ j, j < cr.length → ((List.range cr.length).map fun (k : Nat) => (k : Int) * r).getD j 0 = (j : Int) * r := fun j hj => by
      rw [List.getD_eq_getElem?_getD, List.getElem?_map, List.getElem?_range hj]
      rfl
    rw [hg i (by omega), hg (i + 1) hi]
    have e1 : ((i + 1 : Nat) : Int) * r = (i : Int) * r + r := by
      rw [Int.natCast_succ, Int.add_mul, Int.one_mul]
    omega
theorem high_apart {e r : Int} {cr : List (Int × Int)} (ok : RailOk e r cr) : apL e r 0 (((List.range cr.length).map fun (k : Nat) => e - ((cr.length : Int) - 1 - (k : Int)) * r).map D.int) = true := by
  have r1 := ok.r1
  have fit := ok.fit
  have hg : ∀ j, j < cr.length → ((List.range cr.length).map fun (k : Nat) => e - ((cr.length : Int) - 1 - (k : Int)) * r).getD j 0 = e - ((cr.length : Int) - 1 - (j : Int)) * r := fun j hj => by
    rw [List.getD_eq_getElem?_getD, List.getElem?_map, List.getElem?_range hj]
    rfl
  refine (apL_ints (by omega)).mpr ⟨fun i hi => ?_, fun i hi => ?_⟩
  · rw [List.length_map, List.length_range] at hi
    rw [hg i hi]
    have h1 : 0 ≤ ((cr.length : Int) - 1 - (i : Int)) * r := Int.mul_nonneg (by omega) (by omega)
    have h2 : ((cr.length : Int) - 1 - (i : Int)) * r ≤ ((cr.length : Int) - 1) * r := Int.mul_le_mul_of_nonneg_right (by omega) (by omega)
    omega
  · rw [List.length_map, List.length_range] at hi
    rw [hg i (by omega), hg (i + 1) hi]
    have e1 : ((cr.length : Int) - 1 - (i : Int)) * r = ((cr.length : Int) - 1 - ((i + 1 : Nat) : Int)) * r + r := by
      have : (cr.length : Int) - 1 - (i : Int) = ((cr.length : Int) - 1 - ((i + 1 : Nat) : Int)) + 1 := by omega
      rw [this, Int.add_mul, Int.one_mul]
    omega
def fstD (d : D) : D := match d with
  | .tup [a, _] => a
  | _ => .non
def sndD (d : D) : D := match d with
  | .tup [_, b] => b
  | _ => .non
theorem due_fst {e r : Int} {n : Nat} : (dueL e r n).map fstD = ((List.range n).map fun (k : Nat) => (k : Int) * r).map D.int := by
  unfold dueL rngD
  rw [List.map_map, List.map_map, List.map_map]
  refine List.map_congr_left fun k _ => ?_
  show D.int ((0 + (k : Int)) * r) = D.int ((k : Int) * r)
  rw [Int.zero_add]
theorem due_snd {e r : Int} {n : Nat} : (dueL e r n).map sndD = ((List.range n).map fun (k : Nat) => e - ((n : Int) - 1 - (k : Int)) * r).map D.int := by
  unfold dueL rngD
  rw [List.map_map, List.map_map, List.map_map]
  refine List.map_congr_left fun k _ => ?_
  show D.int (e - ((n : Int) - 1 - (0 + (k : Int))) * r) = D.int (e - ((n : Int) - 1 - (k : Int)) * r)
  rw [Int.zero_add]
theorem sma_due {e r : Int} {cr : List (Int × Int)} (ok : RailOk e r cr) : SmA 2 700 (dueL e r cr.length) := fun d hd => by
  have r1 := ok.r1
  have r2 := ok.r2
  have c2 := ok.c2
  have e2 := ok.e2
  have e1 := ok.e1
  have fit := ok.fit
  obtain ⟨k, hk, rfl⟩ := due_get hd
  have h0 : 0 ≤ (k : Int) * r := Int.mul_nonneg (by omega) (by omega)
  have h1 : (k : Int) * r ≤ ((cr.length : Int) - 1) * r := Int.mul_le_mul_of_nonneg_right (by omega) (by omega)
  have h2 : 0 ≤ ((cr.length : Int) - 1 - (k : Int)) * r := Int.mul_nonneg (by omega) (by omega)
  have h3 : ((cr.length : Int) - 1 - (k : Int)) * r ≤ ((cr.length : Int) - 1) * r := Int.mul_le_mul_of_nonneg_right (by omega) (by omega)
  exact (sm_tup (k := 2) (.cons (sm_int (by omega)) (.cons (sm_int (by omega)) .nil)) (by show 2 ≤ 2; decide)).mono (by decide) (by decide)
theorem rd_l_told_right (K : PySem.W.Frag) (Z : CF K A) {ds : List D} {d : D} (h : R_l_told_right A ds d) : StD K (t_l_told_right K A) (args nm_l_told_right.length ds) (.rt d) := by
  obtain ⟨e, r, cr, rfl, ok, rfl⟩ := h
  have c1 := ok.c1
  have c2 := ok.c2
  have r1 := ok.r1
  have r2 := ok.r2
  have e1 := ok.e1
  have e2 := ok.e2
  have hlc : (cr.map crD).length = cr.length := List.length_map ..
  have same : ∀ {w : Str}, (!decide (w = w)) = false := fun {w} => by rw [decide_eq_true rfl]; rfl
  unfold t_l_told_right
  refine st_seq (st_asg (e_var rfl) (g_tup (gs_cons g_name (gs_cons g_name (gs_cons g_name gs_nil))) rfl)) ?_
  obtain ⟨tx, ht⟩ := n_show (K := K) (d := .lst [.int e, .int r, .tup (cr.map crD)]) ((sm_lst (n := 4) (w := 20000) (k := 3) (.cons ((sm_int (by omega)).mono (by decide) (by decide)) (.cons ((sm_int (by omega)).mono (by decide) (by decide)) (.cons ((sm_tup (k := 6) (sma_cr ok) (by omega)).mono (by decide) (by decide)) .nil))) (by show 3 ≤ 3; decide)).mono (by decide) (by decide))
  refine st_pass (t_is (t_test (e_op (e_cb (s_cons (e_share (o_lst (s_cons (e_end Z (e_var rfl)) (s_cons (e_room Z (e_var rfl)) (s_cons (e_cranes Z (e_var rfl)) s_nil))) (by show 3 ≤ 100000; decide))) s_nil) ht) (e_cb (s_cons (e_share (o_lst (s_cons (e_var rfl) (s_cons (e_var rfl) (s_cons (e_cb (s_cons (e_var rfl) s_nil) n_tupL) s_nil))) (by show 3 ≤ 100000; decide))) s_nil) ht) d_neS)) same) ?_
  refine st_seq (st_asg (d := .int (cr.length : Int)) (e_is (e_cb (s_cons (e_var rfl) s_nil) n_lenL) (by rw [hlc])) g_name) ?_
  refine st_seq (st_asg (d := .lst (dueL e r cr.length)) (e_share (o_lcM (dueD e r cr.length) (it_rng1 (n := (cr.length : Int)) (s_cons (e_var rfl) s_nil) (by omega)) (by rw [rg_len]; omega) (fun d hd => ?_))) g_name) ?_
  · obtain ⟨i, hi, e3⟩ := List.getElem_of_mem hd
    obtain ⟨hlt, rfl⟩ := rg_get (List.getElem?_eq_some_iff.mpr ⟨hi, e3⟩)
    exact e_tup (s_cons (e_op (e_var rfl) (e_var rfl) (d_mulI (Or.inr (by omega)))) (s_cons (e_op (e_var rfl) (e_op (e_op (e_op (e_var rfl) e_int d_subI) (e_var rfl) d_subI) (e_var rfl) (d_mulI (Or.inr (by omega)))) d_subI) s_nil)) (by show 2 ≤ 100000; decide)
  let G : List Sl := [.dat (.obj A.c_Rail (railFs e r cr)), .dat (.tup [.int e, .int r, .lst (cr.map crD)]), .dat (.int e), .dat (.int r), .dat (.lst (cr.map crD)), .dat (.int (cr.length : Int)), .dat (.lst (dueL e r cr.length)), .no, .no]
  show StD K _ G _
  obtain ⟨tx2, ht2⟩ := n_show (K := K) (d := .lst (dueL e r cr.length)) ((sm_list (sma_due ok) (by rw [due_len]; omega)).mono (by decide) (by decide))
  refine st_pass (t_is (t_test (e_op (e_cb (s_cons (e_is (b := .lst (dueL e r cr.length)) (e_share (o_lcM (dueD e r cr.length) (it_rng1 (n := (cr.length : Int)) (s_cons (e_var rfl) s_nil) (by omega)) (by rw [rg_len]; omega) (fun d hd => ?_))) rfl) s_nil) ht2) (e_cb (s_cons (e_var rfl) s_nil) ht2) d_neS)) same) ?_
  · obtain ⟨i, hi, e3⟩ := List.getElem_of_mem hd
    obtain ⟨hlt, rfl⟩ := rg_get (List.getElem?_eq_some_iff.mpr ⟨hi, e3⟩)
    exact e_methX (fs := railFs e r cr) (e_var rfl) rfl (s_cons (e_var rfl) s_nil) ⟨e, r, cr, 0 + (i : Int), rfl, ok, by omega, rfl⟩
  have ap1 : apD e r cr.length (.lst ((dueL e r cr.length).map fstD)) = true := by
    show (decide (((dueL e r cr.length).map fstD).length = cr.length) && apL e r 0 ((dueL e r cr.length).map fstD)) = true
    rw [List.length_map, due_len, decide_eq_true rfl, due_fst, low_apart ok]
    rfl
  have ap2 : apD e r cr.length (.lst ((dueL e r cr.length).map sndD)) = true := by
    show (decide (((dueL e r cr.length).map sndD).length = cr.length) && apL e r 0 ((dueL e r cr.length).map sndD)) = true
    rw [List.length_map, due_len, decide_eq_true rfl, due_snd, high_apart ok]
    rfl
  have sh1 : ∀ ns : List Int, shOk (.lst (ns.map D.int)) = true := fun ns => by
    refine sh_lst ?_
    induction ns with
    | nil =>
      rw [List.map_nil]
      unfold shOks
      rfl
    | cons n ns ih =>
      rw [List.map_cons]
      unfold shOks
      rw [ih]
      rfl
  refine st_ret (e_is (e_andV (x := true) (y := true) (e_is (e_op (e_meth (fs := railFs e r cr) (e_var rfl) rfl (s_cons (e_share (o_lcM fstD (it_list (e_var rfl)) (by rw [due_len]; omega) (fun d hd => ?_))) s_nil) ⟨e, r, cr, _, rfl, ⟨by rw [due_fst]; exact sh1 _, c2⟩, rfl⟩) e_bl d_isB) (by rw [ap1]; rfl)) (fun _ => e_is (e_op (e_meth (fs := railFs e r cr) (e_var rfl) rfl (s_cons (e_share (o_lcM sndD (it_list (e_var rfl)) (by rw [due_len]; omega) (fun d hd => ?_))) s_nil) ⟨e, r, cr, _, rfl, ⟨by rw [due_snd]; exact sh1 _, c2⟩, rfl⟩) e_bl d_isB) (by rw [ap2]; rfl))) (by rfl))
  · obtain ⟨k, hk, rfl⟩ := due_get hd
    exact e_op (e_var rfl) e_int (d_ixT (by rfl))
  · obtain ⟨k, hk, rfl⟩ := due_get hd
    exact e_op (e_var rfl) e_int (d_ixT (by rfl))

theorem ok_crs {cr : List (Int × Int)} : okD 2 (.lst (cr.map crD)) = true := by
  unfold okD
  refine List.all_eq_true.mpr fun d hd => ?_
  obtain ⟨p, _, rfl⟩ := List.mem_map.mp hd
  show okD 1 (.tup [.int p.1, .int p.2]) = true
  unfold okD
  rfl
theorem no_crs : ∀ cr : List (Int × Int), noLsts (cr.map crD) = true
  | [] => by
    rw [List.map_nil]
    unfold noLsts
    rfl
  | p :: cr => by
    rw [List.map_cons]
    unfold noLsts
    rw [no_crs cr]
    show (noLst (.tup [.int p.1, .int p.2]) && true) = true
    unfold noLst noLsts noLst noLsts noLst noLsts
    rfl
theorem no_rail {C : Addr} {e r : Int} {cr : List (Int × Int)} : noLst (.obj C (railFs e r cr)) = true := by
  unfold noLst
  rw [noLstF_map]
  show noLsts [.int e, .int r, .tup (cr.map crD)] = true
  have h : noLst (.tup (cr.map crD)) = true := by
    unfold noLst
    exact no_crs cr
  unfold noLsts noLsts noLsts noLsts
  rw [h]
  rfl
theorem rd_law (K : PySem.W.Frag) (Z : CF K A) {ds : List D} {d : D} (h : R_law ds d) : StD K (t_law K A) (args nm_law.length ds) (.rt d) := by
  obtain ⟨ns, rfl, hl, rfl⟩ := h
  unfold t_law
  let C : List Sl := [.dat (.scr ns), .no, .no, .no, .no, .no, .no, .no, .no, .no, .no]
  refine st_seq (G1 := C) (st_for (it_rng1 (n := 1 + min 30 (ns.length : Int)) (s_cons (e_op e_int (e_cb (s_cons e_int (s_cons (e_cb (s_cons (e_var rfl) s_nil) n_lenR) s_nil)) n_min2) d_addI) s_nil) (by omega)) (fun _ => C) rfl (fun i => C.set 1 (.dat (.int (i : Int)))) (fun i d hd => ?_)
    (fun i => .nx C) (fun k hk _ => ?_) (fun i hi => .inl ⟨_, .inl rfl, Wk.refl _⟩) (fun _ => rfl)) (st_ret e_bl)
  · obtain ⟨_, rfl⟩ := rg_get hd
    rw [Int.zero_add]
    exact g_name
  rw [rg_len] at hk
  have same : ∀ {w : Str}, (!decide (w = w)) = false := fun {w} => by rw [decide_eq_true rfl]; rfl
  generalize hat : 40 * (k : Int) = t
  have ht : 0 ≤ t ∧ t ≤ 1200 := by omega
  have ok := rail_ok ns t
  have hb := nb_in ns (t + 20)
  have hR : R_l_rail [.scr ns, .int t] (.tup [.int (rE ns t), .int (rmV (nb ns t)), .lst ((rC ns t).map crD)]) := ⟨ns, t, rfl, by omega, hl, rfl⟩
  generalize rE ns t = e at ok hR
  generalize rmV (nb ns t) = r at ok hR
  generalize rC ns t = cr at ok hR
  have c1 := ok.c1
  have c2 := ok.c2
  have e1 := ok.e1
  have e2 := ok.e2
  have r1 := ok.r1
  have r2 := ok.r2
  have fit := ok.fit
  refine st_seq (st_asg (d := .int t) (e_is (e_op e_int (e_var rfl) (d_mulI (Or.inl (by decide)))) (by rw [hat])) g_name) ?_
  refine st_seq (st_asg (d := .tup [.int e, .int r, .lst (cr.map crD)]) (e_call (s_cons (e_var rfl) (s_cons (e_var rfl) s_nil)) hR) g_name) ?_
  refine st_seq (st_asgO (o_cb (s_cons (e_op (e_var rfl) e_int (d_ixT (by rfl))) s_nil) (n_listL (l := cr.map crD)))) ?_
  refine st_seq (st_asg (d := .obj A.c_Rail (railFs e r cr)) (e_look (i := 4) rfl (e_make (s_cons (e_op (e_var rfl) e_int (d_ixT (by rfl))) (s_cons (e_op (e_var rfl) e_int (d_ixT (by rfl))) (s_cons (e_var rfl) s_nil))) ⟨e, r, cr, rfl, ok, rfl⟩) no_rail) g_name) ?_
  refine st_pass (t_peek (i := 4) rfl (t_test (e_op (e_var rfl) (e_op (e_var rfl) e_int (d_ixT (by rfl))) (d_sameN ok_crs (by decide))))) ?_
  refine st_seq (st_clear (i := 4) rfl) ?_
  have hpl : (plcs ns (t + 10) e r cr.length).length = cr.length := plcs_len
  have hpi := plcs_in (ns := ns) (t := t + 10) (n := cr.length) (e := e) (r := r) (by omega) (by omega) (by omega) fit
  refine st_seq (st_asg (d := .lst ((plcs ns (t + 10) e r cr.length).map D.int)) (e_call (s_cons (e_var rfl) (s_cons (e_op (e_var rfl) e_int d_addI) (s_cons (e_var rfl) s_nil))) ⟨ns, t + 10, e, r, cr, rfl, by omega, hl, ok, rfl⟩) g_name) ?_
  refine st_seq (st_asg (d := .int (nb ns (t + 20))) (e_nb rfl (e_op (e_var rfl) e_int d_addI) (by omega) hl) g_name) ?_
  generalize plcs ns (t + 10) e r cr.length = ps at hpl hpi
  generalize nb ns (t + 20) = c at hb
  obtain ⟨b1, sb1, hb1⟩ := bent_ex (A := A) K (ps := ps) (c := c) (e := e) (by omega) hpi (by omega)
  obtain ⟨b2, sb2, hb2⟩ := bent_ex (A := A) K (ps := ps) (c := c / 7) (e := e) (by omega) hpi (by omega)
  let W : List Sl := [.dat (.scr ns), .dat (.int (k : Int)), .dat (.int t), .dat (.tup [.int e, .int r, .lst (cr.map crD)]), .own (.lst []), .dat (.obj A.c_Rail (railFs e r cr)), .dat (.lst (ps.map D.int)), .dat (.int c), .no, .no, .no]
  show StD K _ W _
  have s00 : Sm 0 60 (.str "0") := ⟨rfl, by decide +kernel, rfl, Nat.le_refl 0, by decide +kernel⟩
  let X : List D := [.lst (ps.map D.int), b1, b2, .non, .int 5, .str "0", .dic []]
  have hX : ∀ d ∈ X, Sm 5 60003 d := by
    intro d hd
    simp only [X, List.mem_cons, List.not_mem_nil, or_false] at hd
    rcases hd with rfl | rfl | rfl | rfl | rfl | rfl | rfl
    · exact (sm_lst (k := 6) (sma_ints hpi) (by rw [List.length_map]; omega)).mono (by decide) (by decide)
    · exact sb1
    · exact sb2
    · exact sm_non.mono (by decide) (by decide)
    · exact (sm_int (by decide)).mono (by decide) (by decide)
    · exact s00.mono (by decide) (by decide)
    · exact sm_dic.mono (by decide) (by decide)
  refine st_seq (G1 := W) (st_for (it_tup (l := X) (e_tup (s_cons (e_var rfl) (s_cons (e_call (s_cons (e_var rfl) (s_cons (e_var rfl) (s_cons (e_op (e_var rfl) e_int (d_ixT (by rfl))) s_nil))) ⟨rfl, hb1⟩) (s_cons (e_call (s_cons (e_var rfl) (s_cons (e_op (e_var rfl) e_int (d_fdv (by decide) (by decide))) (s_cons (e_op (e_var rfl) e_int (d_ixT (by rfl))) s_nil))) ⟨rfl, hb2⟩) (s_cons e_none (s_cons e_int (s_cons e_str (s_cons e_dnew s_nil))))))) (by show 7 ≤ 100000; decide))) (fun _ => W) rfl (fun i => W.set 8 (.dat (X.getD i .non))) (fun i d hd => by
      obtain ⟨_, rfl⟩ := lst_get hd
      exact g_name)
    (fun i => .nx W) (fun i hi _ => ?_) (fun i hi => .inl ⟨_, .inl rfl, Wk.refl _⟩) (fun _ => rfl)) ?_
  · have hx := hX _ (getD_mem hi)
    generalize X.getD i .non = x at hx
    obtain ⟨tx, htx⟩ := n_show (K := K) hx
    refine st_seq (st_asg (d := .str tx) (e_cb (s_cons (e_var rfl) s_nil) htx) g_name) ?_
    obtain ⟨ty, hty⟩ := n_show (K := K) (d := .bl (apD e r cr.length x)) (sm_bl.mono (by decide) (by decide))
    refine st_if (x := false) (t_is (t_or (x := false) (y := false) (t_is (t_test (e_op (e_cb (s_cons (e_meth (fs := railFs e r cr) (e_var rfl) rfl (s_cons (e_var rfl) s_nil) ⟨e, r, cr, x, rfl, ⟨hx.sh, c2⟩, rfl⟩) s_nil) hty) (e_cb (s_cons (e_call (s_cons (e_var rfl) (s_cons (e_var rfl) s_nil)) ⟨e, r, cr, x, rfl, ok, hx.sh, rfl⟩) s_nil) hty) d_neS)) same) (fun _ => t_is (t_test (e_op (e_cb (s_cons (e_var rfl) s_nil) htx) (e_var rfl) d_neS)) same)) (by rfl)) (fun q => nomatch q) (fun _ => st_weak st_next (Wk.keep (Wk.keep (Wk.keep (Wk.keep (Wk.keep (Wk.keep (Wk.keep (Wk.keep (Wk.drop (Wk.drop (Wk.keep Wk.nil))))))))))))
  have o0 : 0 ≤ c % 9 := Int.emod_nonneg _ (by decide)
  have o9 : c % 9 < 9 := Int.emod_lt_of_pos _ (by decide)
  have y0 : 0 ≤ c / 9 % 50 := Int.emod_nonneg _ (by decide)
  let L : List D := [.non, .bl true, .bl false, .str "0", .lst [.int 0], .tup [.int 0], .dic [], .int (-1 - c), .int ((cr.length : Int) + c / 9 % 50)]
  have hL : ∀ d ∈ L, shOk d = true ∧ amongI d 0 ((cr.length : Int) - 1) = false := by
    intro d hd
    simp only [L, List.mem_cons, List.not_mem_nil, or_false] at hd
    rcases hd with rfl | rfl | rfl | rfl | rfl | rfl | rfl | rfl | rfl
    · exact ⟨rfl, rfl⟩
    · exact ⟨rfl, rfl⟩
    · exact ⟨rfl, rfl⟩
    · exact ⟨rfl, rfl⟩
    · exact ⟨rfl, rfl⟩
    · exact ⟨rfl, rfl⟩
    · exact ⟨rfl, rfl⟩
    · refine ⟨rfl, ?_⟩
      show (decide (0 ≤ -1 - c) && decide (-1 - c ≤ (cr.length : Int) - 1)) = false
      rw [decide_eq_false (by omega : ¬ 0 ≤ -1 - c)]
      rfl
    · refine ⟨rfl, ?_⟩
      show (decide (0 ≤ (cr.length : Int) + c / 9 % 50) && decide ((cr.length : Int) + c / 9 % 50 ≤ (cr.length : Int) - 1)) = false
      rw [decide_eq_false (by omega : ¬ (cr.length : Int) + c / 9 % 50 ≤ (cr.length : Int) - 1), Bool.and_false]
  obtain ⟨hs, hf⟩ := hL _ (getD_in D.non L (c % 9).toNat (by show (c % 9).toNat < 9; omega))
  have hlc : (cr.map crD).length = cr.length := List.length_map ..
  refine st_seq (st_asg (d := L.getD (c % 9).toNat .non) (e_op (e_share (o_lst (ds := L) (s_cons e_none (s_cons e_bl (s_cons e_bl (s_cons e_str (s_cons (e_share (o_lst (s_cons e_int s_nil) (by show 1 ≤ 100000; decide))) (s_cons (e_tup (s_cons e_int s_nil) (by show 1 ≤ 100000; decide)) (s_cons e_dnew (s_cons (e_op (e_un e_int op1_neg) (e_var rfl) d_subI) (s_cons (e_op (e_is (e_cb (s_cons (e_op (e_var rfl) e_int (d_ixT (by rfl))) s_nil) n_lenL) (by rw [hlc])) (e_op (e_op (e_var rfl) e_int (d_fdv (by decide) (by decide))) e_int (d_mod (by decide))) d_addI) s_nil))))))))) (by show 9 ≤ 100000; decide))) (e_op (e_var rfl) e_int (d_mod (by decide))) (d_ixLn o0 o9)) g_name) ?_
  generalize L.getD (c % 9).toNat .non = odd at hs hf
  exact st_if (x := false) (t_is (t_or (x := false) (y := false) (t_is (t_not (t_B (e_call (s_cons (e_var rfl) (s_cons (e_var rfl) s_nil)) ⟨e, r, cr, rfl, ok, rfl⟩))) (by rfl)) (fun _ => t_is (t_not (t_B (e_call (s_cons (e_var rfl) (s_cons (e_var rfl) s_nil)) ⟨e, r, cr, odd, rfl, hs, hf, rfl⟩))) (by rfl))) (by rfl)) (fun q => nomatch q) (fun _ => st_weak st_next (Wk.keep (Wk.drop (Wk.drop (Wk.drop (Wk.drop (Wk.drop (Wk.drop (Wk.drop (Wk.drop (Wk.drop (Wk.drop Wk.nil))))))))))))

theorem law_end {K : PySem.W.Frag} {H : Hp} {a : Addr} {ns : List Int} (hl : ns.length ≤ 63) (hS : SqL K H a (ns.map V.int)) : sp_law K [.ref a] H (fun v _ => v = .bl true) fun _ _ _ => False := law_endD hS ⟨ns, rfl, hl, rfl⟩

end

/-- what the top has written -/
structure Tx (K : PySem.W.Frag) (mg : Str → Option Value) where
  A : XA
  a_is_among : Addr
  d_is_among : FuncData
  F_is_among : Fun K "is_among" "is_among" s_is_among a_is_among d_is_among
  m_is_among : mg "is_among" = some (.ref a_is_among)
  a_Rail_init : Addr
  d_Rail_init : FuncData
  F_Rail_init : Fun K "__init__" "Rail.__init__" s_Rail_init a_Rail_init d_Rail_init
  mk_Rail : Mk K A.c_Rail a_Rail_init
  a_Rail_reach : Addr
  d_Rail_reach : FuncData
  F_Rail_reach : Fun K "reach" "Rail.reach" s_Rail_reach a_Rail_reach d_Rail_reach
  me_Rail_reach : Meth K A.c_Rail "reach" a_Rail_reach
  a_Rail_are_apart : Addr
  d_Rail_are_apart : FuncData
  F_Rail_are_apart : Fun K "are_apart" "Rail.are_apart" s_Rail_are_apart a_Rail_are_apart d_Rail_are_apart
  me_Rail_are_apart : Meth K A.c_Rail "are_apart" a_Rail_are_apart
  a_is_rail : Addr
  d_is_rail : FuncData
  F_is_rail : Fun K "_is_rail" "_is_rail" s_is_rail a_is_rail d_is_rail
  m_is_rail : mg "_is_rail" = some (.ref a_is_rail)
  a_is_crane : Addr
  d_is_crane : FuncData
  F_is_crane : Fun K "_is_crane" "_is_crane" s_is_crane a_is_crane d_is_crane
  m_is_crane : mg "_is_crane" = some (.ref a_is_crane)
  a_l_mixed : Addr
  d_l_mixed : FuncData
  F_l_mixed : Fun K "_law_mixed" "_law_mixed" s_l_mixed a_l_mixed d_l_mixed
  m_l_mixed : mg "_law_mixed" = some (.ref a_l_mixed)
  a_l_number : Addr
  d_l_number : FuncData
  F_l_number : Fun K "_law_number" "_law_number" s_l_number a_l_number d_l_number
  m_l_number : mg "_law_number" = some (.ref a_l_number)
  a_l_kind : Addr
  d_l_kind : FuncData
  F_l_kind : Fun K "_law_kind" "_law_kind" s_l_kind a_l_kind d_l_kind
  m_l_kind : mg "_law_kind" = some (.ref a_l_kind)
  a_l_rail : Addr
  d_l_rail : FuncData
  F_l_rail : Fun K "_law_rail" "_law_rail" s_l_rail a_l_rail d_l_rail
  m_l_rail : mg "_law_rail" = some (.ref a_l_rail)
  a_l_spread : Addr
  d_l_spread : FuncData
  F_l_spread : Fun K "_law_spread" "_law_spread" s_l_spread a_l_spread d_l_spread
  m_l_spread : mg "_law_spread" = some (.ref a_l_spread)
  a_l_bent : Addr
  d_l_bent : FuncData
  F_l_bent : Fun K "_law_bent" "_law_bent" s_l_bent a_l_bent d_l_bent
  m_l_bent : mg "_law_bent" = some (.ref a_l_bent)
  a_l_are_apart : Addr
  d_l_are_apart : FuncData
  F_l_are_apart : Fun K "_law_are_apart" "_law_are_apart" s_l_are_apart a_l_are_apart d_l_are_apart
  m_l_are_apart : mg "_law_are_apart" = some (.ref a_l_are_apart)
  a_l_no_crane : Addr
  d_l_no_crane : FuncData
  F_l_no_crane : Fun K "_law_no_crane" "_law_no_crane" s_l_no_crane a_l_no_crane d_l_no_crane
  m_l_no_crane : mg "_law_no_crane" = some (.ref a_l_no_crane)
  a_l_told_right : Addr
  d_l_told_right : FuncData
  F_l_told_right : Fun K "_law_told_right" "_law_told_right" s_l_told_right a_l_told_right d_l_told_right
  m_l_told_right : mg "_law_told_right" = some (.ref a_l_told_right)
  a_law : Addr
  d_law : FuncData
  F_law : Fun K "law" "law" s_law a_law d_law
  m_law : mg "law" = some (.ref a_law)
  g_Rail : mg "Rail" = some (.ref A.c_Rail)
  g_CraneError : mg "CraneError" = some (.ref A.c_CraneError)
  g_BadName : mg "BadName" = some (.ref A.c_BadName)
  g_BadNumber : mg "BadNumber" = some (.ref A.c_BadNumber)
  g_BadRail : mg "BadRail" = some (.ref A.c_BadRail)
  g_BadStack : mg "BadStack" = some (.ref A.c_BadStack)
  g_BadPlaces : mg "BadPlaces" = some (.ref A.c_BadPlaces)
  g_BadText : mg "BadText" = some (.ref A.c_BadText)
  g_Twice : mg "Twice" = some (.ref A.c_Twice)
  g_NoCrane : mg "NoCrane" = some (.ref A.c_NoCrane)
  g_NoStack : mg "NoStack" = some (.ref A.c_NoStack)
  g_NoBox : mg "NoBox" = some (.ref A.c_NoBox)
  g_NoJob : mg "NoJob" = some (.ref A.c_NoJob)
  g_Same : mg "Same" = some (.ref A.c_Same)
  g_Buried : mg "Buried" = some (.ref A.c_Buried)
  g_TooHigh : mg "TooHigh" = some (.ref A.c_TooHigh)
  g_TooHeavy : mg "TooHeavy" = some (.ref A.c_TooHeavy)
  g_Empty : mg "Empty" = some (.ref A.c_Empty)
  g_NoReach : mg "NoReach" = some (.ref A.c_NoReach)
  g_BadJournal : mg "BadJournal" = some (.ref A.c_BadJournal)
  x_NoCrane : PySem.W.excIn K A.c_NoCrane [.type "ValueError", .type "Exception", .type "BaseException", .type "object"] "ValueError.__new__" = true
  k_NoCrane : PySem.W.keepIn K (.ref A.c_NoCrane) = true
  b_NoCrane : PySem.W.subIn K (.ref A.c_NoCrane) (.type "BaseException") = some true
  t_NoCrane : PySem.W.typeIn K (.ref A.c_NoCrane) = some (.type "type")
  Z : CF K A
  b_ValueError : mg "ValueError" = none
  b_all : mg "all" = none
  b_bool : mg "bool" = none
  b_int : mg "int" = none
  b_isinstance : mg "isinstance" = none
  b_len : mg "len" = none
  b_list : mg "list" = none
  b_max : mg "max" = none
  b_min : mg "min" = none
  b_range : mg "range" = none
  b_repr : mg "repr" = none
  b_tuple : mg "tuple" = none
  k_GREATEST_END : Tok
  c_GREATEST_END : mg "GREATEST_END" = some (.int 1000000000000 k_GREATEST_END)
  k_GREATEST_HOIST : Tok
  c_GREATEST_HOIST : mg "GREATEST_HOIST" = some (.int 1000 k_GREATEST_HOIST)
  k_GREATEST_ROOM : Tok
  c_GREATEST_ROOM : mg "GREATEST_ROOM" = some (.int 1000000 k_GREATEST_ROOM)
  k_GREATEST_SPEED : Tok
  c_GREATEST_SPEED : mg "GREATEST_SPEED" = some (.int 1000000000 k_GREATEST_SPEED)
  k_MOST_CRANES : Tok
  c_MOST_CRANES : mg "MOST_CRANES" = some (.int 6 k_MOST_CRANES)
section
variable {P : Program} {w : World} {K : PySem.W.Frag} {mg : Str → Option Value} {base : Heap}
theorem bd_is_among (T : Tx K mg) : Binds K T.d_is_among ["thing", "least", "most"] [] := T.F_is_among.binds (ps := ["thing", "least", "most"]) fun _ _ _ _ _ _ us hl => match us, hl with | [_, _, _], _ => rfl
theorem ok_is_among (T : Tx K mg) : FnOk P w K mg base CX0 1 T.a_is_among T.d_is_among ["thing", "least", "most"] (sp_is_among K T.A) := by
  refine T.F_is_among.ok sc_is_among (fun vs H Q E h => len_is_among h) (fun cdv A outer s H vs Q E hr h => ?_)
  refine ⟨t_is_among K T.A, ?_, body_D (N := nm_is_among) h (fun ds d hR => by rw [ln_is_among hR]; decide) (fun ds d hR => rd_is_among K T.Z hR)⟩
  exact (pss_cons (ps_if (PW.pt (pw_or (pt_not (pt_val (pe_callB call_isi (by rfl) T.b_isinstance (by decide +kernel) (pa_cons (pv 0) (pa_cons (pe_bltn (v := .ty "int") (by rfl) T.b_int (by decide +kernel) rfl) pa_nil))))) (pw_or1 (pt_val (pe_callB call_isi (by rfl) T.b_isinstance (by decide +kernel) (pa_cons (pv 0) (pa_cons (pe_bltn (v := .ty "bool") (by rfl) T.b_bool (by decide +kernel) rfl) pa_nil))))))) (pss_one (ps_ret (pe_bl))) pss_nil)
  (pss_one (ps_ret (pe_chain op_gLe op_gLe (pv 1) (pv 0) (pv 2)))))
theorem bd_l_mixed (T : Tx K mg) : Binds K T.d_l_mixed ["_law_cell", "_law_k"] [] := T.F_l_mixed.binds (ps := ["_law_cell", "_law_k"]) fun _ _ _ _ _ _ us hl => match us, hl with | [_, _], _ => rfl
theorem ok_l_mixed (T : Tx K mg) : FnOk P w K mg base CX0 1 T.a_l_mixed T.d_l_mixed ["_law_cell", "_law_k"] (sp_l_mixed K T.A) := by
  refine T.F_l_mixed.ok sc_l_mixed (fun vs H Q E h => len_l_mixed h) (fun cdv A outer s H vs Q E hr h => ?_)
  refine ⟨t_l_mixed K T.A, ?_, body_D (N := nm_l_mixed) h (fun ds d hR => by rw [ln_l_mixed hR]; decide) (fun ds d hR => rd_l_mixed K T.Z hR)⟩
  exact (pss_cons (ps_set (i := 2) sc_l_mixed.nd rfl (by first | exact Or.inl rfl | exact Or.inr rfl) (pe_op op_gMod (pe_op op_gMul (pe_op op_gAdd (pe_op op_gAdd (pe_op op_gAdd (pe_op op_gMod (pv 0) (pe_int)) (pe_op op_gMul (pe_op op_gMul (pe_int) (pv 1)) (pv 1))) (pe_op op_gMul (pe_int) (pv 1))) (pe_int)) (pe_int)) (pe_int)))
  (pss_one (ps_ret (pe_op op_gFdv (pe_op op_gMod (pe_op op_gMul (pv 2) (pe_op op_gAdd (pe_op op_gMod (pv 2) (pe_int)) (pe_int))) (pe_int)) (pe_int)))))
theorem bd_l_kind (T : Tx K mg) : Binds K T.d_l_kind ["_law_e"] [] := T.F_l_kind.binds (ps := ["_law_e"]) fun _ _ _ _ _ _ us hl => match us, hl with | [_], _ => rfl
theorem ok_l_kind (T : Tx K mg) : FnOk P w K mg base CX0 1 T.a_l_kind T.d_l_kind ["_law_e"] (sp_l_kind K T.A) := by
  refine T.F_l_kind.ok sc_l_kind (fun vs H Q E h => len_l_kind h) (fun cdv A outer s H vs Q E hr h => ?_)
  refine ⟨t_l_kind K T.A, ?_, body_D (N := nm_l_kind) h (fun ds d hR => by rw [ln_l_kind hR]; decide) (fun ds d hR => rd_l_kind K T.Z hR)⟩
  exact (pss_cons (ps_set (i := 1) sc_l_kind.nd rfl (by first | exact Or.inl rfl | exact Or.inr rfl) (pe_op op_gAdd (pe_op op_gMul (pe_lst (pa_cons (pe_str) pa_nil)) (pe_callTy call_gInt (by rfl) T.b_int (by decide +kernel) (pa_cons (pe_callB call_gIsi (by rfl) T.b_isinstance (by decide +kernel) (pa_cons (pv 0) (pa_cons (pe_glob (v := .ref T.A.c_BadName) (by rfl) T.g_BadName rfl) pa_nil))) pa_nil))) (pe_op op_gMul (pe_lst (pa_cons (pe_str) pa_nil)) (pe_callTy call_gInt (by rfl) T.b_int (by decide +kernel) (pa_cons (pe_callB call_gIsi (by rfl) T.b_isinstance (by decide +kernel) (pa_cons (pv 0) (pa_cons (pe_glob (v := .ref T.A.c_BadNumber) (by rfl) T.g_BadNumber rfl) pa_nil))) pa_nil)))))
  (pss_cons (ps_set (i := 1) sc_l_kind.nd rfl (by first | exact Or.inl rfl | exact Or.inr rfl) (pe_op op_gAdd (pe_op op_gAdd (pv 1) (pe_op op_gMul (pe_lst (pa_cons (pe_str) pa_nil)) (pe_callTy call_gInt (by rfl) T.b_int (by decide +kernel) (pa_cons (pe_callB call_gIsi (by rfl) T.b_isinstance (by decide +kernel) (pa_cons (pv 0) (pa_cons (pe_glob (v := .ref T.A.c_BadRail) (by rfl) T.g_BadRail rfl) pa_nil))) pa_nil)))) (pe_op op_gMul (pe_lst (pa_cons (pe_str) pa_nil)) (pe_callTy call_gInt (by rfl) T.b_int (by decide +kernel) (pa_cons (pe_callB call_gIsi (by rfl) T.b_isinstance (by decide +kernel) (pa_cons (pv 0) (pa_cons (pe_glob (v := .ref T.A.c_BadStack) (by rfl) T.g_BadStack rfl) pa_nil))) pa_nil)))))
  (pss_cons (ps_set (i := 1) sc_l_kind.nd rfl (by first | exact Or.inl rfl | exact Or.inr rfl) (pe_op op_gAdd (pe_op op_gAdd (pv 1) (pe_op op_gMul (pe_lst (pa_cons (pe_str) pa_nil)) (pe_callTy call_gInt (by rfl) T.b_int (by decide +kernel) (pa_cons (pe_callB call_gIsi (by rfl) T.b_isinstance (by decide +kernel) (pa_cons (pv 0) (pa_cons (pe_glob (v := .ref T.A.c_BadPlaces) (by rfl) T.g_BadPlaces rfl) pa_nil))) pa_nil)))) (pe_op op_gMul (pe_lst (pa_cons (pe_str) pa_nil)) (pe_callTy call_gInt (by rfl) T.b_int (by decide +kernel) (pa_cons (pe_callB call_gIsi (by rfl) T.b_isinstance (by decide +kernel) (pa_cons (pv 0) (pa_cons (pe_glob (v := .ref T.A.c_BadText) (by rfl) T.g_BadText rfl) pa_nil))) pa_nil)))))
  (pss_cons (ps_set (i := 1) sc_l_kind.nd rfl (by first | exact Or.inl rfl | exact Or.inr rfl) (pe_op op_gAdd (pe_op op_gAdd (pv 1) (pe_op op_gMul (pe_lst (pa_cons (pe_str) pa_nil)) (pe_callTy call_gInt (by rfl) T.b_int (by decide +kernel) (pa_cons (pe_callB call_gIsi (by rfl) T.b_isinstance (by decide +kernel) (pa_cons (pv 0) (pa_cons (pe_glob (v := .ref T.A.c_Twice) (by rfl) T.g_Twice rfl) pa_nil))) pa_nil)))) (pe_op op_gMul (pe_lst (pa_cons (pe_str) pa_nil)) (pe_callTy call_gInt (by rfl) T.b_int (by decide +kernel) (pa_cons (pe_callB call_gIsi (by rfl) T.b_isinstance (by decide +kernel) (pa_cons (pv 0) (pa_cons (pe_glob (v := .ref T.A.c_NoCrane) (by rfl) T.g_NoCrane rfl) pa_nil))) pa_nil)))))
  (pss_cons (ps_set (i := 1) sc_l_kind.nd rfl (by first | exact Or.inl rfl | exact Or.inr rfl) (pe_op op_gAdd (pe_op op_gAdd (pv 1) (pe_op op_gMul (pe_lst (pa_cons (pe_str) pa_nil)) (pe_callTy call_gInt (by rfl) T.b_int (by decide +kernel) (pa_cons (pe_callB call_gIsi (by rfl) T.b_isinstance (by decide +kernel) (pa_cons (pv 0) (pa_cons (pe_glob (v := .ref T.A.c_NoStack) (by rfl) T.g_NoStack rfl) pa_nil))) pa_nil)))) (pe_op op_gMul (pe_lst (pa_cons (pe_str) pa_nil)) (pe_callTy call_gInt (by rfl) T.b_int (by decide +kernel) (pa_cons (pe_callB call_gIsi (by rfl) T.b_isinstance (by decide +kernel) (pa_cons (pv 0) (pa_cons (pe_glob (v := .ref T.A.c_NoBox) (by rfl) T.g_NoBox rfl) pa_nil))) pa_nil)))))
  (pss_cons (ps_set (i := 1) sc_l_kind.nd rfl (by first | exact Or.inl rfl | exact Or.inr rfl) (pe_op op_gAdd (pe_op op_gAdd (pv 1) (pe_op op_gMul (pe_lst (pa_cons (pe_str) pa_nil)) (pe_callTy call_gInt (by rfl) T.b_int (by decide +kernel) (pa_cons (pe_callB call_gIsi (by rfl) T.b_isinstance (by decide +kernel) (pa_cons (pv 0) (pa_cons (pe_glob (v := .ref T.A.c_NoJob) (by rfl) T.g_NoJob rfl) pa_nil))) pa_nil)))) (pe_op op_gMul (pe_lst (pa_cons (pe_str) pa_nil)) (pe_callTy call_gInt (by rfl) T.b_int (by decide +kernel) (pa_cons (pe_callB call_gIsi (by rfl) T.b_isinstance (by decide +kernel) (pa_cons (pv 0) (pa_cons (pe_glob (v := .ref T.A.c_Same) (by rfl) T.g_Same rfl) pa_nil))) pa_nil)))))
  (pss_cons (ps_set (i := 1) sc_l_kind.nd rfl (by first | exact Or.inl rfl | exact Or.inr rfl) (pe_op op_gAdd (pe_op op_gAdd (pv 1) (pe_op op_gMul (pe_lst (pa_cons (pe_str) pa_nil)) (pe_callTy call_gInt (by rfl) T.b_int (by decide +kernel) (pa_cons (pe_callB call_gIsi (by rfl) T.b_isinstance (by decide +kernel) (pa_cons (pv 0) (pa_cons (pe_glob (v := .ref T.A.c_Buried) (by rfl) T.g_Buried rfl) pa_nil))) pa_nil)))) (pe_op op_gMul (pe_lst (pa_cons (pe_str) pa_nil)) (pe_callTy call_gInt (by rfl) T.b_int (by decide +kernel) (pa_cons (pe_callB call_gIsi (by rfl) T.b_isinstance (by decide +kernel) (pa_cons (pv 0) (pa_cons (pe_glob (v := .ref T.A.c_TooHigh) (by rfl) T.g_TooHigh rfl) pa_nil))) pa_nil)))))
  (pss_cons (ps_set (i := 1) sc_l_kind.nd rfl (by first | exact Or.inl rfl | exact Or.inr rfl) (pe_op op_gAdd (pe_op op_gAdd (pv 1) (pe_op op_gMul (pe_lst (pa_cons (pe_str) pa_nil)) (pe_callTy call_gInt (by rfl) T.b_int (by decide +kernel) (pa_cons (pe_callB call_gIsi (by rfl) T.b_isinstance (by decide +kernel) (pa_cons (pv 0) (pa_cons (pe_glob (v := .ref T.A.c_TooHeavy) (by rfl) T.g_TooHeavy rfl) pa_nil))) pa_nil)))) (pe_op op_gMul (pe_lst (pa_cons (pe_str) pa_nil)) (pe_callTy call_gInt (by rfl) T.b_int (by decide +kernel) (pa_cons (pe_callB call_gIsi (by rfl) T.b_isinstance (by decide +kernel) (pa_cons (pv 0) (pa_cons (pe_glob (v := .ref T.A.c_Empty) (by rfl) T.g_Empty rfl) pa_nil))) pa_nil)))))
  (pss_cons (ps_set (i := 1) sc_l_kind.nd rfl (by first | exact Or.inl rfl | exact Or.inr rfl) (pe_op op_gAdd (pe_op op_gAdd (pv 1) (pe_op op_gMul (pe_lst (pa_cons (pe_str) pa_nil)) (pe_callTy call_gInt (by rfl) T.b_int (by decide +kernel) (pa_cons (pe_callB call_gIsi (by rfl) T.b_isinstance (by decide +kernel) (pa_cons (pv 0) (pa_cons (pe_glob (v := .ref T.A.c_NoReach) (by rfl) T.g_NoReach rfl) pa_nil))) pa_nil)))) (pe_op op_gMul (pe_lst (pa_cons (pe_str) pa_nil)) (pe_callTy call_gInt (by rfl) T.b_int (by decide +kernel) (pa_cons (pe_callB call_gIsi (by rfl) T.b_isinstance (by decide +kernel) (pa_cons (pv 0) (pa_cons (pe_glob (v := .ref T.A.c_BadJournal) (by rfl) T.g_BadJournal rfl) pa_nil))) pa_nil)))))
  (pss_one (ps_ret (pe_join (pe_str) (pe_op op_gAdd (pv 1) (pe_op op_gMul (pe_lst (pa_cons (pe_str) pa_nil)) (pe_callTy call_gInt (by rfl) T.b_int (by decide +kernel) (pa_cons (pe_not (pe_callB call_gIsi (by rfl) T.b_isinstance (by decide +kernel) (pa_cons (pv 0) (pa_cons (pe_bltn (v := .ty "ValueError") (by rfl) T.b_ValueError (by decide +kernel) rfl) pa_nil)))) pa_nil))))))))))))))))
theorem bd_l_bent (T : Tx K mg) : Binds K T.d_l_bent ["_law_places", "_law_cell", "_law_end"] [] := T.F_l_bent.binds (ps := ["_law_places", "_law_cell", "_law_end"]) fun _ _ _ _ _ _ us hl => match us, hl with | [_, _, _], _ => rfl
theorem ok_l_bent (T : Tx K mg) : FnOk P w K mg base CX0 1 T.a_l_bent T.d_l_bent ["_law_places", "_law_cell", "_law_end"] (sp_l_bent K T.A) := by
  refine T.F_l_bent.ok sc_l_bent (fun vs H Q E h => len_l_bent h) (fun cdv A outer s H vs Q E hr h => ?_)
  refine ⟨t_l_bent K T.A, ?_, body_D (N := nm_l_bent) h (fun ds d hR => by rw [ln_l_bent hR]; decide) (fun ds d hR => rd_l_bent K T.Z hR)⟩
  exact (pss_cons (ps_set (i := 3) sc_l_bent.nd rfl (by first | exact Or.inl rfl | exact Or.inr rfl) (pe_op op_gMod (pe_op op_gFdv (pv 1) (pe_int)) (pe_callB call_gLen (by rfl) T.b_len (by decide +kernel) (pa_cons (pv 0) pa_nil))))
  (pss_cons (ps_set (i := 4) sc_l_bent.nd rfl (by first | exact Or.inl rfl | exact Or.inr rfl) (pe_op op_gAdd (pe_int) (pe_op op_gMod (pe_op op_gFdv (pv 1) (pe_int)) (pe_int))))
  (pss_cons (ps_set (i := 5) sc_l_bent.nd rfl (by first | exact Or.inl rfl | exact Or.inr rfl) (pe_ix ix_seq (pe_lst (pa_cons (pe_non) (pa_cons (pe_bl) (pa_cons (pe_str) (pa_cons (pe_un un_neg (pe_int)) (pa_cons (pe_op op_gAdd (pe_op op_gAdd (pv 2) (pe_int)) (pe_op op_gMod (pe_op op_gFdv (pv 1) (pe_int)) (pe_int))) (pa_cons (pe_lst (pa_cons (pe_ix ix_seq (pv 0) (pv 3) (fun _ _ => rfl)) pa_nil)) (pa_cons (pe_tup (pa_cons (pe_ix ix_seq (pv 0) (pv 3) (fun _ _ => rfl)) pa_nil)) (pa_cons (pe_bl) (pa_cons (pe_dnewK) pa_nil)))))))))) (pe_op op_gMod (pe_op op_gFdv (pv 1) (pe_int)) (pe_int)) (fun _ _ => rfl)))
  (pss_cons (ps_set (i := 6) sc_l_bent.nd rfl (by first | exact Or.inl rfl | exact Or.inr rfl) (pe_lst (pa_cons (pe_op op_gSub (pe_ix ix_seq (pv 0) (pv 3) (fun _ _ => rfl)) (pv 4)) (pa_cons (pe_op op_gAdd (pe_ix ix_seq (pv 0) (pv 3) (fun _ _ => rfl)) (pv 4)) (pa_cons (pv 5) (pa_cons (pe_op op_gSub (pe_ix ix_seq (pv 0) (pv 3) (fun _ _ => rfl)) (pe_int)) (pa_cons (pe_op op_gAdd (pe_ix ix_seq (pv 0) (pv 3) (fun _ _ => rfl)) (pe_int)) pa_nil)))))))
  (pss_cons (ps_if (pt_cmpR op_gLt (pe_op op_gMod (pv 1) (pe_int)) (pe_int) (nomark _)) (pss_one (ps_ret (pe_op op_gAdd (pe_op op_gAdd (pe_slice sl_gSl (pv 0) po_none (po_some (pv 3))) (pe_lst (pa_cons (pe_ix ix_seq (pv 6) (pe_op op_gMod (pv 1) (pe_int)) (fun _ _ => rfl)) pa_nil))) (pe_slice sl_gSl (pv 0) (po_some (pe_op op_gAdd (pv 3) (pe_int))) po_none)))) pss_nil)
  (pss_cons (ps_if (pt_cmpR op_gLt (pe_op op_gMod (pv 1) (pe_int)) (pe_int) (nomark _)) (pss_one (ps_ret (pe_op op_gAdd (pe_slice sl_gSl (pv 0) po_none (po_some (pv 3))) (pe_slice sl_gSl (pv 0) (po_some (pe_op op_gAdd (pv 3) (pe_int))) po_none)))) pss_nil)
  (pss_cons (ps_if (pt_cmpR op_gLt (pe_op op_gMod (pv 1) (pe_int)) (pe_int) (nomark _)) (pss_one (ps_ret (pe_op op_gAdd (pe_op op_gAdd (pe_slice sl_gSl (pv 0) po_none (po_some (pv 3))) (pe_lst (pa_cons (pe_ix ix_seq (pv 0) (pv 3) (fun _ _ => rfl)) pa_nil))) (pe_slice sl_gSl (pv 0) (po_some (pv 3)) po_none)))) pss_nil)
  (pss_one (ps_ret (pe_ix ix_seq (pe_lst (pa_cons (pe_callTy call_gTuple (by rfl) T.b_tuple (by decide +kernel) (pa_cons (pv 0) pa_nil)) (pa_cons (pe_revL (pv 0)) pa_nil))) (pe_op op_gMod (pv 1) (pe_int)) (fun _ _ => rfl)))))))))))
theorem bd_l_are_apart (T : Tx K mg) : Binds K T.d_l_are_apart ["_law_rail_here", "_law_places"] [] := T.F_l_are_apart.binds (ps := ["_law_rail_here", "_law_places"]) fun _ _ _ _ _ _ us hl => match us, hl with | [_, _], _ => rfl
theorem ok_l_are_apart (T : Tx K mg) : FnOk P w K mg base CX0 1 T.a_l_are_apart T.d_l_are_apart ["_law_rail_here", "_law_places"] (sp_l_are_apart K T.A) := by
  refine T.F_l_are_apart.ok sc_l_are_apart (fun vs H Q E h => len_l_are_apart h) (fun cdv A outer s H vs Q E hr h => ?_)
  refine ⟨t_l_are_apart K T.A, ?_, body_D (N := nm_l_are_apart) h (fun ds d hR => by rw [ln_l_are_apart hR]; decide) (fun ds d hR => rd_l_are_apart K T.Z hR)⟩
  exact (pss_cons (ps_asg (pv 0) (pg_tup rfl (pgs_cons (pg_name (i := 2) sc_l_are_apart.nd rfl (by first | exact Or.inl rfl | exact Or.inr rfl)) (pgs_cons (pg_name (i := 3) sc_l_are_apart.nd rfl (by first | exact Or.inl rfl | exact Or.inr rfl)) (pgs_cons (pg_name (i := 4) sc_l_are_apart.nd rfl (by first | exact Or.inl rfl | exact Or.inr rfl)) pgs_nil)))))
  (pss_cons (ps_if (PW.pt (pw_or (pt_not (pt_val (pe_callB call_isi (by rfl) T.b_isinstance (by decide +kernel) (pa_cons (pv 1) (pa_cons (pe_bltn (v := .ty "list") (by rfl) T.b_list (by decide +kernel) rfl) pa_nil))))) (pw_or1 (pt_cmpR (op_gNe hr.units) (pe_callB call_gLen (by rfl) T.b_len (by decide +kernel) (pa_cons (pv 1) pa_nil)) (pe_callB call_gLen (by rfl) T.b_len (by decide +kernel) (pa_cons (pv 4) pa_nil)) (nomark _))))) (pss_one (ps_ret (pe_bl))) pss_nil)
  (pss_cons (ps_if (pt_cmpR (op_gNe hr.units) (pe_lc (own := [("_law_one", 5)]) (g := (gName 5)) (tt := (tOr (tB (tCB (rIsi K) (tCons (tVar 5) (tCons (tC (.ty "bool")) tNil)))) (tNot (tB (tCB (rIsi K) (tCons (tVar 5) (tCons (tC (.ty "int")) tNil))))))) (by rfl) sc_l_are_apart.nd (pi_list (pv 1)) (blkOk_by (own := [("_law_one", 5)]) (N := nm_l_are_apart) (sc := defScope s_l_are_apart) (by decide +kernel)) (fun _ _ _ _ _ => (pg_name (i := 5) sc_l_are_apart.nd rfl (Or.inl rfl))) (fun _ _ _ _ _ => (pts_one (PW.pt (pw_or (pt_val (pe_callB call_isi (by rfl) T.b_isinstance (by decide +kernel) (pa_cons (pv 5) (pa_cons (pe_bltn (v := .ty "bool") (by rfl) T.b_bool (by decide +kernel) rfl) pa_nil)))) (pw_or1 (pt_not (pt_val (pe_callB call_isi (by rfl) T.b_isinstance (by decide +kernel) (pa_cons (pv 5) (pa_cons (pe_bltn (v := .ty "int") (by rfl) T.b_int (by decide +kernel) rfl) pa_nil)))))))))) (fun _ _ _ _ _ => (pv 5))) (pe_lst pa_nil) (nomark _)) (pss_one (ps_ret (pe_bl))) pss_nil)
  (pss_cons (ps_if (PW.pt (pw_or (pt_cmpR op_gLt (pe_callB (call_gMin rfl) (by rfl) T.b_min (by decide +kernel) (pa_cons (pv 1) pa_nil)) (pe_int) (nomark _)) (pw_or1 (pt_cmpR op_gGt (pe_callB (call_gMax rfl) (by rfl) T.b_max (by decide +kernel) (pa_cons (pv 1) pa_nil)) (pv 2) (nomark _))))) (pss_one (ps_ret (pe_bl))) pss_nil)
  (pss_one (ps_ret (pe_cmpR (op_gEq hr.units) (pe_lc (own := [("_law_k", 6)]) (g := (gName 6)) (tt := (tTest (tOp (gLt) (tOp (gIx K) (tVar 1) (tVar 6)) (tOp (gAdd K) (tOp (gIx K) (tVar 1) (tOp (gSub) (tVar 6) (tC (.int 1)))) (tVar 3))))) (by rfl) sc_l_are_apart.nd (pi_range2 (by rfl) T.b_range (pa_cons (pe_int) (pa_cons (pe_callB call_gLen (by rfl) T.b_len (by decide +kernel) (pa_cons (pv 1) pa_nil)) pa_nil))) (blkOk_by (own := [("_law_k", 6)]) (N := nm_l_are_apart) (sc := defScope s_l_are_apart) (by decide +kernel)) (fun _ _ _ _ _ => (pg_name (i := 6) sc_l_are_apart.nd rfl (Or.inl rfl))) (fun _ _ _ _ _ => (pts_one (pt_cmpR op_gLt (pe_ix ix_seq (pv 1) (pv 6) (fun _ _ => rfl)) (pe_op op_gAdd (pe_ix ix_seq (pv 1) (pe_op op_gSub (pv 6) (pe_int)) (fun _ _ => rfl)) (pv 3)) (nomark _)))) (fun _ _ _ _ _ => (pv 6))) (pe_lst pa_nil) (nomark _))))))))
theorem bd_Rail_reach (T : Tx K mg) : Binds K T.d_Rail_reach ["self", "crane"] [] := T.F_Rail_reach.binds (ps := ["self", "crane"]) fun _ _ _ _ _ _ us hl => match us, hl with | [_, _], _ => rfl
theorem ok_Rail_reach (T : Tx K mg) : FnOk P w K mg base (L2.CX P w) 2 T.a_Rail_reach T.d_Rail_reach ["self", "crane"] (sp_Rail_reach K T.A) := by
  refine T.F_Rail_reach.okX sc_Rail_reach (fun vs H Q E h => len_Rail_reach h) (fun cdv A outer s H vs Q E hr h => ?_)
  refine ⟨t_Rail_reach K T.A E, ?_, body_X (t := t_Rail_reach K T.A) (N := nm_Rail_reach) h (fun ds d hR => by rw [ln_Rail_reach hR]; decide) (fun ds r E hR => rd_Rail_reach K T.Z E hR)⟩
  exact (pss_cons (ps_set (i := 2) sc_Rail_reach.nd rfl (by first | exact Or.inl rfl | exact Or.inr rfl) (pe_op op_gSub (pe_callB call_gLen (by rfl) T.b_len (by decide +kernel) (pa_cons (pe_fld (pv 0) rfl) pa_nil)) (pe_int)))
  (pss_cons (ps_if (pt_not (pt_val (pe_call (ok_is_among T) (hr.mono (by decide)) (by rfl) T.m_is_among T.F_is_among.kp (bd_is_among T) .nil pass0 (pa_cons (pv 1) (pa_cons (pe_int) (pa_cons (pv 2) pa_nil)))))) (pss_one (ps_raise rfl (takes_of rfl rfl rfl rfl) (pmk_own PySem.F.excBase_ValueError T.x_NoCrane T.g_NoCrane T.k_NoCrane (raises_own T.b_NoCrane T.t_NoCrane) (by exact rfl)))) pss_nil)
  (pss_one (ps_ret (pe_tup (pa_cons (pe_op op_gMul (pv 1) (pe_fld (pv 0) rfl)) (pa_cons (pe_op op_gSub (pe_fld (pv 0) rfl) (pe_op op_gMul (pe_op op_gSub (pv 2) (pv 1)) (pe_fld (pv 0) rfl))) pa_nil)))))))
theorem bd_Rail_are_apart (T : Tx K mg) : Binds K T.d_Rail_are_apart ["self", "places"] [] := T.F_Rail_are_apart.binds (ps := ["self", "places"]) fun _ _ _ _ _ _ us hl => match us, hl with | [_, _], _ => rfl
theorem ok_Rail_are_apart (T : Tx K mg) : FnOk P w K mg base CX0 2 T.a_Rail_are_apart T.d_Rail_are_apart ["self", "places"] (sp_Rail_are_apart K T.A) := by
  refine T.F_Rail_are_apart.ok sc_Rail_are_apart (fun vs H Q E h => len_Rail_are_apart h) (fun cdv A outer s H vs Q E hr h => ?_)
  refine ⟨t_Rail_are_apart K T.A, ?_, body_D (N := nm_Rail_are_apart) h (fun ds d hR => by rw [ln_Rail_are_apart hR]; decide) (fun ds d hR => rd_Rail_are_apart K T.Z hR)⟩
  exact (pss_cons (ps_if (PW.pt (pw_or (pt_not (pt_val (pe_callB call_isi (by rfl) T.b_isinstance (by decide +kernel) (pa_cons (pv 1) (pa_cons (pe_bltn (v := .ty "list") (by rfl) T.b_list (by decide +kernel) rfl) pa_nil))))) (pw_or1 (pt_cmpR (op_gNe hr.units) (pe_callB call_gLen (by rfl) T.b_len (by decide +kernel) (pa_cons (pv 1) pa_nil)) (pe_callB call_gLen (by rfl) T.b_len (by decide +kernel) (pa_cons (pe_fld (pv 0) rfl) pa_nil)) (nomark _))))) (pss_one (ps_ret (pe_bl))) pss_nil)
  (pss_cons (ps_set (i := 2) sc_Rail_are_apart.nd rfl (by first | exact Or.inl rfl | exact Or.inr rfl) (pe_int))
  (pss_cons (ps_for PassesOwn.never rfl (pi_list (pv 1)) (pg_name (i := 3) sc_Rail_are_apart.nd rfl (by first | exact Or.inl rfl | exact Or.inr rfl)) (pss_cons (ps_if (pt_not (pt_val (pe_call (ok_is_among T) (hr.mono (by decide)) (by rfl) T.m_is_among T.F_is_among.kp (bd_is_among T) .nil pass0 (pa_cons (pv 3) (pa_cons (pv 2) (pa_cons (pe_fld (pv 0) rfl) pa_nil)))))) (pss_one (ps_ret (pe_bl))) pss_nil)
  (pss_one (ps_set (i := 2) sc_Rail_are_apart.nd rfl (by first | exact Or.inl rfl | exact Or.inr rfl) (pe_op op_gAdd (pv 3) (pe_fld (pv 0) rfl))))))
  (pss_one (ps_ret (pe_bl))))))
theorem bd_is_crane (T : Tx K mg) : Binds K T.d_is_crane ["thing"] [] := T.F_is_crane.binds (ps := ["thing"]) fun _ _ _ _ _ _ us hl => match us, hl with | [_], _ => rfl
theorem ok_is_crane (T : Tx K mg) : FnOk P w K mg base CX0 2 T.a_is_crane T.d_is_crane ["thing"] (sp_is_crane K T.A) := by
  refine T.F_is_crane.ok sc_is_crane (fun vs H Q E h => len_is_crane h) (fun cdv A outer s H vs Q E hr h => ?_)
  refine ⟨t_is_crane K T.A, ?_, body_D (N := nm_is_crane) h (fun ds d hR => by rw [ln_is_crane hR]; decide) (fun ds d hR => rd_is_crane K T.Z hR)⟩
  exact (pss_cons (ps_if (PW.pt (pw_or (pt_not (pt_val (pe_callB call_isi (by rfl) T.b_isinstance (by decide +kernel) (pa_cons (pv 0) (pa_cons (pe_bltn (v := .ty "tuple") (by rfl) T.b_tuple (by decide +kernel) rfl) pa_nil))))) (pw_or1 (pt_cmpR (op_gNe hr.units) (pe_callB call_gLen (by rfl) T.b_len (by decide +kernel) (pa_cons (pv 0) pa_nil)) (pe_int) (nomark _))))) (pss_one (ps_ret (pe_bl))) pss_nil)
  (pss_cons (ps_asg (pv 0) (pg_tup rfl (pgs_cons (pg_name (i := 1) sc_is_crane.nd rfl (by first | exact Or.inl rfl | exact Or.inr rfl)) (pgs_cons (pg_name (i := 2) sc_is_crane.nd rfl (by first | exact Or.inl rfl | exact Or.inr rfl)) pgs_nil))))
  (pss_one (ps_ret (pe_and (pe_call (ok_is_among T) (hr.mono (by decide)) (by rfl) T.m_is_among T.F_is_among.kp (bd_is_among T) .nil pass0 (pa_cons (pv 1) (pa_cons (pe_int) (pa_cons (pe_glob rfl T.c_GREATEST_SPEED ⟨_, rfl⟩) pa_nil)))) (pe_one (pe_call (ok_is_among T) (hr.mono (by decide)) (by rfl) T.m_is_among T.F_is_among.kp (bd_is_among T) .nil pass0 (pa_cons (pv 2) (pa_cons (pe_int) (pa_cons (pe_glob rfl T.c_GREATEST_HOIST ⟨_, rfl⟩) pa_nil))))))))))
theorem bd_l_number (T : Tx K mg) : Binds K T.d_l_number ["_law_script", "_law_k"] [] := T.F_l_number.binds (ps := ["_law_script", "_law_k"]) fun _ _ _ _ _ _ us hl => match us, hl with | [_, _], _ => rfl
theorem ok_l_number (T : Tx K mg) : FnOk P w K mg base CX0 2 T.a_l_number T.d_l_number ["_law_script", "_law_k"] (sp_l_number K T.A) := by
  refine T.F_l_number.ok sc_l_number (fun vs H Q E h => len_l_number h) (fun cdv A outer s H vs Q E hr h => ?_)
  refine ⟨t_l_number K T.A, ?_, body_D (N := nm_l_number) h (fun ds d hR => by rw [ln_l_number hR]; decide) (fun ds d hR => rd_l_number K T.Z hR)⟩
  exact (pss_cons (ps_set (i := 2) sc_l_number.nd rfl (by first | exact Or.inl rfl | exact Or.inr rfl) (pe_int))
  (pss_cons (ps_if (pt_cmpR op_gGt (pe_callB call_gLen (by rfl) T.b_len (by decide +kernel) (pa_cons (pv 0) pa_nil)) (pe_int) (nomark _)) (pss_cons (ps_set (i := 2) sc_l_number.nd rfl (by first | exact Or.inl rfl | exact Or.inr rfl) (pe_ix ix_seq (pv 0) (pe_op op_gMod (pv 1) (pe_callB call_gLen (by rfl) T.b_len (by decide +kernel) (pa_cons (pv 0) pa_nil))) (fun _ _ => rfl)))
  (pss_one (ps_if (pt_cmpR (op_gEq hr.units) (pe_op op_gMod (pe_ix ix_seq (pv 0) (pe_int) (fun _ _ => rfl)) (pe_int)) (pe_int) (nomark _)) (pss_cons (ps_for PassesOwn.never rfl (pi_range1 (by rfl) T.b_range (pa_cons (pe_callB (call_gMin rfl) (by rfl) T.b_min (by decide +kernel) (pa_cons (pe_int) (pa_cons (pe_op op_gFdv (pv 1) (pe_callB call_gLen (by rfl) T.b_len (by decide +kernel) (pa_cons (pv 0) pa_nil))) pa_nil))) pa_nil)) (pg_name (i := 3) sc_l_number.nd rfl (by first | exact Or.inl rfl | exact Or.inr rfl)) (pss_one (ps_set (i := 2) sc_l_number.nd rfl (by first | exact Or.inl rfl | exact Or.inr rfl) (pe_op op_gFdv (pv 2) (pe_op op_gPow (pe_int) (pe_int))))))
  (pss_one (ps_ret (pe_op op_gMod (pv 2) (pe_op op_gPow (pe_int) (pe_int)))))) pss_nil))) pss_nil)
  (pss_one (ps_ret (pe_call (ok_l_mixed T) (hr.mono (by decide)) (by rfl) T.m_l_mixed T.F_l_mixed.kp (bd_l_mixed T) .nil pass0 (pa_cons (pv 2) (pa_cons (pv 1) pa_nil)))))))
theorem bd_is_rail (T : Tx K mg) : Binds K T.d_is_rail ["end", "room", "cranes"] [] := T.F_is_rail.binds (ps := ["end", "room", "cranes"]) fun _ _ _ _ _ _ us hl => match us, hl with | [_, _, _], _ => rfl
theorem ok_is_rail (T : Tx K mg) : FnOk P w K mg base CX0 3 T.a_is_rail T.d_is_rail ["end", "room", "cranes"] (sp_is_rail K T.A) := by
  refine T.F_is_rail.ok sc_is_rail (fun vs H Q E h => len_is_rail h) (fun cdv A outer s H vs Q E hr h => ?_)
  refine ⟨t_is_rail K T.A, ?_, body_D (N := nm_is_rail) h (fun ds d hR => by rw [ln_is_rail hR]; decide) (fun ds d hR => rd_is_rail K T.Z hR)⟩
  exact (pss_cons (ps_if (PW.pt (pw_or (pt_not (pt_val (pe_call (ok_is_among T) (hr.mono (by decide)) (by rfl) T.m_is_among T.F_is_among.kp (bd_is_among T) .nil pass0 (pa_cons (pv 0) (pa_cons (pe_int) (pa_cons (pe_glob rfl T.c_GREATEST_END ⟨_, rfl⟩) pa_nil)))))) (pw_or1 (pt_not (pt_val (pe_call (ok_is_among T) (hr.mono (by decide)) (by rfl) T.m_is_among T.F_is_among.kp (bd_is_among T) .nil pass0 (pa_cons (pv 1) (pa_cons (pe_int) (pa_cons (pe_glob rfl T.c_GREATEST_ROOM ⟨_, rfl⟩) pa_nil))))))))) (pss_one (ps_ret (pe_bl))) pss_nil)
  (pss_cons (ps_if (PW.pt (pw_or (pt_not (pt_val (pe_callB call_isi (by rfl) T.b_isinstance (by decide +kernel) (pa_cons (pv 2) (pa_cons (pe_bltn (v := .ty "list") (by rfl) T.b_list (by decide +kernel) rfl) pa_nil))))) (pw_or1 (pt_not (pt_chain op_gLe op_gLe (pe_int) (pe_callB call_gLen (by rfl) T.b_len (by decide +kernel) (pa_cons (pv 2) pa_nil)) (pe_glob rfl T.c_MOST_CRANES ⟨_, rfl⟩)))))) (pss_one (ps_ret (pe_bl))) pss_nil)
  (pss_cons (ps_if (pt_not (pt_val (pe_callB (cr_all rfl) (by rfl) T.b_all (by decide +kernel) (pa_cons (pe_lc (own := [("crane", 3)]) (g := (gName 3)) (tt := tYes) (by rfl) sc_is_rail.nd (pi_list (pv 2)) (blkOk_by (own := [("crane", 3)]) (N := nm_is_rail) (sc := defScope s_is_rail) (by decide +kernel)) (fun _ _ _ _ _ => (pg_name (i := 3) sc_is_rail.nd rfl (Or.inl rfl))) (fun _ _ _ _ _ => pts_nil) (fun _ _ _ _ _ => (pe_call (ok_is_crane T) (hr.mono (by decide)) (by rfl) T.m_is_crane T.F_is_crane.kp (bd_is_crane T) .nil pass0 (pa_cons (pv 3) pa_nil)))) pa_nil)))) (pss_one (ps_ret (pe_bl))) pss_nil)
  (pss_one (ps_ret (pe_cmpR op_gLe (pe_op op_gMul (pe_op op_gSub (pe_callB call_gLen (by rfl) T.b_len (by decide +kernel) (pa_cons (pv 2) pa_nil)) (pe_int)) (pv 1)) (pv 0) (nomark _)))))))
theorem bd_l_rail (T : Tx K mg) : Binds K T.d_l_rail ["_law_script", "_law_at"] [] := T.F_l_rail.binds (ps := ["_law_script", "_law_at"]) fun _ _ _ _ _ _ us hl => match us, hl with | [_, _], _ => rfl
theorem ok_l_rail (T : Tx K mg) : FnOk P w K mg base CX0 3 T.a_l_rail T.d_l_rail ["_law_script", "_law_at"] (sp_l_rail K T.A) := by
  refine T.F_l_rail.ok sc_l_rail (fun vs H Q E h => len_l_rail h) (fun cdv A outer s H vs Q E hr h => ?_)
  refine ⟨t_l_rail K T.A, ?_, body_D (N := nm_l_rail) h (fun ds d hR => by rw [ln_l_rail hR]; decide) (fun ds d hR => rd_l_rail K T.Z hR)⟩
  exact (pss_cons (ps_set (i := 2) sc_l_rail.nd rfl (by first | exact Or.inl rfl | exact Or.inr rfl) (pe_call (ok_l_number T) (hr.mono (by decide)) (by rfl) T.m_l_number T.F_l_number.kp (bd_l_number T) .nil pass0 (pa_cons (pv 0) (pa_cons (pv 1) pa_nil))))
  (pss_cons (ps_set (i := 3) sc_l_rail.nd rfl (by first | exact Or.inl rfl | exact Or.inr rfl) (pe_ix ix_seq (pe_lst (pa_cons (pe_op op_gAdd (pe_int) (pe_op op_gMod (pe_op op_gFdv (pv 2) (pe_int)) (pe_int))) (pa_cons (pe_op op_gAdd (pe_int) (pe_op op_gMod (pe_op op_gFdv (pv 2) (pe_int)) (pe_op op_gPow (pe_int) (pe_int)))) (pa_cons (pe_op op_gPow (pe_int) (pe_int)) (pa_cons (pe_int) pa_nil))))) (pe_op op_gMod (pv 2) (pe_int)) (fun _ _ => rfl)))
  (pss_cons (ps_set (i := 4) sc_l_rail.nd rfl (by first | exact Or.inl rfl | exact Or.inr rfl) (pe_lst pa_nil))
  (pss_cons (ps_for PassesOwn.never rfl (pi_range1 (by rfl) T.b_range (pa_cons (pe_op op_gAdd (pe_int) (pe_op op_gMod (pe_op op_gFdv (pv 2) (pe_int)) (pe_int))) pa_nil)) (pg_name (i := 5) sc_l_rail.nd rfl (by first | exact Or.inl rfl | exact Or.inr rfl)) (pss_cons (ps_set (i := 6) sc_l_rail.nd rfl (by first | exact Or.inl rfl | exact Or.inr rfl) (pe_call (ok_l_number T) (hr.mono (by decide)) (by rfl) T.m_l_number T.F_l_number.kp (bd_l_number T) .nil pass0 (pa_cons (pv 0) (pa_cons (pe_op op_gAdd (pe_op op_gAdd (pv 1) (pe_int)) (pv 5)) pa_nil))))
  (pss_cons (ps_set (i := 7) sc_l_rail.nd rfl (by first | exact Or.inl rfl | exact Or.inr rfl) (pe_ix ix_seq (pe_lst (pa_cons (pe_op op_gAdd (pe_int) (pe_op op_gMod (pe_op op_gFdv (pv 6) (pe_int)) (pe_int))) (pa_cons (pe_op op_gAdd (pe_int) (pe_op op_gMod (pe_op op_gFdv (pv 6) (pe_int)) (pe_op op_gPow (pe_int) (pe_int)))) (pa_cons (pe_op op_gPow (pe_int) (pe_int)) pa_nil)))) (pe_op op_gMod (pv 6) (pe_int)) (fun _ _ => rfl)))
  (pss_one (ps_expr (pe_bm PySem.F.plainAttrs_list PySem.F.slot_list_append PySem.F.type_list_append mt_append (pv 4) (pa_cons (pe_tup (pa_cons (pv 7) (pa_cons (pe_ix ix_seq (pe_lst (pa_cons (pe_op op_gAdd (pe_int) (pe_op op_gMod (pe_op op_gFdv (pv 6) (pe_int)) (pe_int))) (pa_cons (pe_op op_gAdd (pe_int) (pe_op op_gMod (pe_op op_gFdv (pv 6) (pe_int)) (pe_int))) (pa_cons (pe_int) pa_nil)))) (pe_op op_gMod (pe_op op_gFdv (pv 6) (pe_int)) (pe_int)) (fun _ _ => rfl)) pa_nil))) pa_nil)))))))
  (pss_cons (ps_set (i := 8) sc_l_rail.nd rfl (by first | exact Or.inl rfl | exact Or.inr rfl) (pe_call (ok_l_number T) (hr.mono (by decide)) (by rfl) T.m_l_number T.F_l_number.kp (bd_l_number T) .nil pass0 (pa_cons (pv 0) (pa_cons (pe_op op_gAdd (pv 1) (pe_int)) pa_nil))))
  (pss_cons (ps_set (i := 9) sc_l_rail.nd rfl (by first | exact Or.inl rfl | exact Or.inr rfl) (pe_callB (call_gMax rfl) (by rfl) T.b_max (by decide +kernel) (pa_cons (pe_int) (pa_cons (pe_op op_gMul (pe_op op_gSub (pe_callB call_gLen (by rfl) T.b_len (by decide +kernel) (pa_cons (pv 4) pa_nil)) (pe_int)) (pv 3)) pa_nil))))
  (pss_cons (ps_set (i := 10) sc_l_rail.nd rfl (by first | exact Or.inl rfl | exact Or.inr rfl) (pe_op op_gAdd (pe_op op_gMul (pv 8) (pe_int)) (pe_op op_gMod (pv 2) (pe_int))))
  (pss_cons (ps_set (i := 11) sc_l_rail.nd rfl (by first | exact Or.inl rfl | exact Or.inr rfl) (pe_ix ix_seq (pe_lst (pa_cons (pv 9) (pa_cons (pe_op op_gAdd (pv 9) (pe_op op_gMod (pe_op op_gFdv (pv 8) (pe_int)) (pe_int))) (pa_cons (pe_callB (call_gMin rfl) (by rfl) T.b_min (by decide +kernel) (pa_cons (pe_op op_gPow (pe_int) (pe_int)) (pa_cons (pe_op op_gAdd (pv 9) (pv 10)) pa_nil))) (pa_cons (pe_op op_gPow (pe_int) (pe_int)) (pa_cons (pe_op op_gAdd (pv 9) (pe_int)) pa_nil)))))) (pe_op op_gMod (pv 8) (pe_int)) (fun _ _ => rfl)))
  (pss_one (ps_ret (pe_tup (pa_cons (pv 11) (pa_cons (pv 3) (pa_cons (pv 4) pa_nil))))))))))))))
theorem bd_l_spread (T : Tx K mg) : Binds K T.d_l_spread ["_law_script", "_law_at", "_law_rail_here"] [] := T.F_l_spread.binds (ps := ["_law_script", "_law_at", "_law_rail_here"]) fun _ _ _ _ _ _ us hl => match us, hl with | [_, _, _], _ => rfl
theorem ok_l_spread (T : Tx K mg) : FnOk P w K mg base CX0 3 T.a_l_spread T.d_l_spread ["_law_script", "_law_at", "_law_rail_here"] (sp_l_spread K T.A) := by
  refine T.F_l_spread.ok sc_l_spread (fun vs H Q E h => len_l_spread h) (fun cdv A outer s H vs Q E hr h => ?_)
  refine ⟨t_l_spread K T.A, ?_, body_D (N := nm_l_spread) h (fun ds d hR => by rw [ln_l_spread hR]; decide) (fun ds d hR => rd_l_spread K T.Z hR)⟩
  exact (pss_cons (ps_asg (pv 2) (pg_tup rfl (pgs_cons (pg_name (i := 3) sc_l_spread.nd rfl (by first | exact Or.inl rfl | exact Or.inr rfl)) (pgs_cons (pg_name (i := 4) sc_l_spread.nd rfl (by first | exact Or.inl rfl | exact Or.inr rfl)) (pgs_cons (pg_name (i := 5) sc_l_spread.nd rfl (by first | exact Or.inl rfl | exact Or.inr rfl)) pgs_nil)))))
  (pss_cons (ps_set (i := 6) sc_l_spread.nd rfl (by first | exact Or.inl rfl | exact Or.inr rfl) (pe_op op_gSub (pv 3) (pe_op op_gMul (pe_op op_gSub (pe_callB call_gLen (by rfl) T.b_len (by decide +kernel) (pa_cons (pv 5) pa_nil)) (pe_int)) (pv 4))))
  (pss_cons (ps_set (i := 7) sc_l_spread.nd rfl (by first | exact Or.inl rfl | exact Or.inr rfl) (pe_lst pa_nil))
  (pss_cons (ps_set (i := 8) sc_l_spread.nd rfl (by first | exact Or.inl rfl | exact Or.inr rfl) (pe_int))
  (pss_cons (ps_for PassesOwn.never rfl (pi_range1 (by rfl) T.b_range (pa_cons (pe_callB call_gLen (by rfl) T.b_len (by decide +kernel) (pa_cons (pv 5) pa_nil)) pa_nil)) (pg_name (i := 9) sc_l_spread.nd rfl (by first | exact Or.inl rfl | exact Or.inr rfl)) (pss_cons (ps_set (i := 10) sc_l_spread.nd rfl (by first | exact Or.inl rfl | exact Or.inr rfl) (pe_call (ok_l_number T) (hr.mono (by decide)) (by rfl) T.m_l_number T.F_l_number.kp (bd_l_number T) .nil pass0 (pa_cons (pv 0) (pa_cons (pe_op op_gAdd (pv 1) (pv 9)) pa_nil))))
  (pss_cons (ps_set (i := 11) sc_l_spread.nd rfl (by first | exact Or.inl rfl | exact Or.inr rfl) (pe_ix ix_seq (pe_lst (pa_cons (pe_int) (pa_cons (pe_op op_gMod (pe_op op_gFdv (pv 10) (pe_int)) (pe_op op_gAdd (pv 6) (pe_int))) (pa_cons (pe_callB (call_gMin rfl) (by rfl) T.b_min (by decide +kernel) (pa_cons (pv 6) (pa_cons (pe_op op_gMod (pe_op op_gFdv (pv 10) (pe_int)) (pe_int)) pa_nil))) (pa_cons (pv 6) pa_nil))))) (pe_op op_gMod (pv 10) (pe_int)) (fun _ _ => rfl)))
  (pss_cons (ps_set (i := 6) sc_l_spread.nd rfl (by first | exact Or.inl rfl | exact Or.inr rfl) (pe_op op_gSub (pv 6) (pv 11)))
  (pss_cons (ps_set (i := 8) sc_l_spread.nd rfl (by first | exact Or.inl rfl | exact Or.inr rfl) (pe_op op_gAdd (pv 8) (pv 11)))
  (pss_cons (ps_expr (pe_bm PySem.F.plainAttrs_list PySem.F.slot_list_append PySem.F.type_list_append mt_append (pv 7) (pa_cons (pv 8) pa_nil)))
  (pss_one (ps_set (i := 8) sc_l_spread.nd rfl (by first | exact Or.inl rfl | exact Or.inr rfl) (pe_op op_gAdd (pv 8) (pv 4))))))))))
  (pss_one (ps_ret (pv 7))))))))
theorem bd_l_no_crane (T : Tx K mg) : Binds K T.d_l_no_crane ["_law_rail_here", "_law_thing"] [] := T.F_l_no_crane.binds (ps := ["_law_rail_here", "_law_thing"]) fun _ _ _ _ _ _ us hl => match us, hl with | [_, _], _ => rfl
theorem ok_l_no_crane (T : Tx K mg) : FnOk P w K mg base CX0 3 T.a_l_no_crane T.d_l_no_crane ["_law_rail_here", "_law_thing"] (sp_l_no_crane K T.A) := by
  refine T.F_l_no_crane.ok sc_l_no_crane (fun vs H Q E h => len_l_no_crane h) (fun cdv A outer s H vs Q E hr h => ?_)
  refine ⟨t_l_no_crane K T.A, ?_, body_D (N := nm_l_no_crane) h (fun ds d hR => by rw [ln_l_no_crane hR]; decide) (fun ds d hR => rd_l_no_crane K T.Z hR)⟩
  exact (pss_cons (ps_set (i := 2) sc_l_no_crane.nd rfl (by first | exact Or.inl rfl | exact Or.inr rfl) (pe_non))
  (pss_cons (ps_tryE (i := 3) (m := 2) (te := fun E => (tMethE T.A.c_Rail "reach" (sp_Rail_reach K T.A) E (tVar 0) (tCons (tVar 1) tNil))) rfl rfl sc_l_no_crane.nd rfl rfl ⟨rfl, by decide, .inl T.g_CraneError⟩ rfl rfl (fun W pn xe tk => ps_expr (pe_methE (pv 0) T.Z.cl_Rail T.me_Rail_reach (ok_Rail_reach T) (hr.mono (by decide)) (bd_Rail_reach T) (fun σ => passAt tk σ) (pa_cons (pv 1) pa_nil))) (fun a pn => ps_set (i := 2) sc_l_no_crane.nd rfl (by first | exact Or.inl rfl | exact Or.inr rfl) (pv 3)))
  (pss_one (ps_ret (pe_and (pe_cmpR op_gIsn (pv 2) (pe_non) (nomark _)) (pe_one (pe_cmpR (op_gEq hr.units) (pe_call (ok_l_kind T) (hr.mono (by decide)) (by rfl) T.m_l_kind T.F_l_kind.kp (bd_l_kind T) .nil pass0 (pa_cons (pv 2) pa_nil)) (pe_str) (nomark _))))))))
theorem bd_l_told_right (T : Tx K mg) : Binds K T.d_l_told_right ["_law_rail_here", "_law_told"] [] := T.F_l_told_right.binds (ps := ["_law_rail_here", "_law_told"]) fun _ _ _ _ _ _ us hl => match us, hl with | [_, _], _ => rfl
theorem ok_l_told_right (T : Tx K mg) (hsm : ∃ o, base.get? sysModules = some o) : FnG P w K mg base CX0 3 T.a_l_told_right T.d_l_told_right ["_law_rail_here", "_law_told"] (sp_l_told_right K T.A) := by
  refine fnG_of T.F_l_told_right sc_l_told_right (fun vs H Q E h => len_l_told_right h) (fun cdv A outer s H vs Q E hr h => ?_)
  refine ⟨t_l_told_right K T.A, PSs.nox ?_, body_D (N := nm_l_told_right) h (fun ds d hR => by rw [ln_l_told_right hR]; decide) (fun ds d hR => rd_l_told_right K T.Z hR)⟩
  exact (pss_cons (ps_asg (pv 1) (pg_tup rfl (pgs_cons (pg_name (i := 2) sc_l_told_right.nd rfl (by first | exact Or.inl rfl | exact Or.inr rfl)) (pgs_cons (pg_name (i := 3) sc_l_told_right.nd rfl (by first | exact Or.inl rfl | exact Or.inr rfl)) (pgs_cons (pg_name (i := 4) sc_l_told_right.nd rfl (by first | exact Or.inl rfl | exact Or.inr rfl)) pgs_nil)))))
  (pss_cons (ps_if (pt_cmpR (op_gNe hr.1.units) (pe_callB (call_gReprA hr.2 hr.1.units hsm) (by rfl) T.b_repr (by decide +kernel) (pa_cons (pe_lst (pa_cons (pe_fld (pv 0) rfl) (pa_cons (pe_fld (pv 0) rfl) (pa_cons (pe_fld (pv 0) rfl) pa_nil)))) pa_nil)) (pe_callB (call_gReprA hr.2 hr.1.units hsm) (by rfl) T.b_repr (by decide +kernel) (pa_cons (pe_lst (pa_cons (pv 2) (pa_cons (pv 3) (pa_cons (pe_callTy call_gTuple (by rfl) T.b_tuple (by decide +kernel) (pa_cons (pv 4) pa_nil)) pa_nil)))) pa_nil)) (nomark _)) (pss_one (ps_ret (pe_bl))) pss_nil)
  (pss_cons (ps_set (i := 5) sc_l_told_right.nd rfl (by first | exact Or.inl rfl | exact Or.inr rfl) (pe_callB call_gLen (by rfl) T.b_len (by decide +kernel) (pa_cons (pv 4) pa_nil)))
  (pss_cons (ps_setLc (i := 6) (own := [("_law_k", 7)]) (g := (gName 7)) (tt := tYes) (by rfl) sc_l_told_right.nd rfl rfl (sw_true rfl rfl rfl (by decide +kernel)) (pi_range1 (by rfl) T.b_range (pa_cons (pv 5) pa_nil)) (blkOk_by (own := [("_law_k", 7)]) (N := nm_l_told_right) (sc := defScope s_l_told_right) (by decide +kernel)) (fun _ _ _ _ _ => (pg_name (i := 7) sc_l_told_right.nd rfl (Or.inl rfl))) (fun _ _ _ _ _ => pts_nil) (fun _ _ _ _ _ => (pe_tup (pa_cons (pe_op op_gMul (pv 7) (pv 3)) (pa_cons (pe_op op_gSub (pv 2) (pe_op op_gMul (pe_op op_gSub (pe_op op_gSub (pv 5) (pe_int)) (pv 7)) (pv 3))) pa_nil)))))
  (pss_cons (ps_if (pt_cmpR (op_gNe hr.1.units) (pe_callB (call_gReprA hr.2 hr.1.units hsm) (by rfl) T.b_repr (by decide +kernel) (pa_cons (pe_lc (own := [("_law_k", 7)]) (g := (gName 7)) (tt := tYes) (by rfl) sc_l_told_right.nd (pi_range1 (by rfl) T.b_range (pa_cons (pv 5) pa_nil)) (blkOk_by (own := [("_law_k", 7)]) (N := nm_l_told_right) (sc := defScope s_l_told_right) (by decide +kernel)) (fun _ _ _ _ _ => (pg_name (i := 7) sc_l_told_right.nd rfl (Or.inl rfl))) (fun _ _ _ _ _ => pts_nil) (fun _ _ _ _ _ => (pe_meth (pv 0) T.Z.cl_Rail T.me_Rail_reach (ok_Rail_reach T) (hr.1.mono (by decide)) (bd_Rail_reach T) .nil passL (pa_cons (pv 7) pa_nil)))) pa_nil)) (pe_callB (call_gReprA hr.2 hr.1.units hsm) (by rfl) T.b_repr (by decide +kernel) (pa_cons (pv 6) pa_nil)) (nomark _)) (pss_one (ps_ret (pe_bl))) pss_nil)
  (pss_one (ps_ret (pe_and (pe_cmpR op_gIs (pe_meth (pv 0) T.Z.cl_Rail T.me_Rail_are_apart (ok_Rail_are_apart T) (hr.1.mono (by decide)) (bd_Rail_are_apart T) .nil pass0 (pa_cons (pe_lc (own := [("_law_one", 8)]) (g := (gName 8)) (tt := tYes) (by rfl) sc_l_told_right.nd (pi_list (pv 6)) (blkOk_by (own := [("_law_one", 8)]) (N := nm_l_told_right) (sc := defScope s_l_told_right) (by decide +kernel)) (fun _ _ _ _ _ => (pg_name (i := 8) sc_l_told_right.nd rfl (Or.inl rfl))) (fun _ _ _ _ _ => pts_nil) (fun _ _ _ _ _ => (pe_ix ix_seq (pv 8) (pe_int) (fun _ _ => rfl)))) pa_nil)) (pe_bl) (nomark _)) (pe_one (pe_cmpR op_gIs (pe_meth (pv 0) T.Z.cl_Rail T.me_Rail_are_apart (ok_Rail_are_apart T) (hr.1.mono (by decide)) (bd_Rail_are_apart T) .nil pass0 (pa_cons (pe_lc (own := [("_law_one", 8)]) (g := (gName 8)) (tt := tYes) (by rfl) sc_l_told_right.nd (pi_list (pv 6)) (blkOk_by (own := [("_law_one", 8)]) (N := nm_l_told_right) (sc := defScope s_l_told_right) (by decide +kernel)) (fun _ _ _ _ _ => (pg_name (i := 8) sc_l_told_right.nd rfl (Or.inl rfl))) (fun _ _ _ _ _ => pts_nil) (fun _ _ _ _ _ => (pe_ix ix_seq (pv 8) (pe_int) (fun _ _ => rfl)))) pa_nil)) (pe_bl) (nomark _)))))))))))
theorem bd_Rail_init (T : Tx K mg) : Binds K T.d_Rail_init ["self", "end", "room", "cranes"] [] := T.F_Rail_init.binds (ps := ["self", "end", "room", "cranes"]) fun _ _ _ _ _ _ us hl => match us, hl with | [_, _, _, _], _ => rfl
theorem ok_Rail_init (T : Tx K mg) : FnOk P w K mg base CX0 4 T.a_Rail_init T.d_Rail_init ["self", "end", "room", "cranes"] (sp_Rail_init K T.A) := by
  refine T.F_Rail_init.ok sc_Rail_init (fun vs H Q E h => len_Rail_init h) (fun cdv A outer s H vs Q E hr h => ?_)
  refine ⟨t_Rail_init K T.A, ?_, body_I (N := nm_Rail_init) h (fun ds d hR => by rw [ln_Rail_init hR]; decide) (fun x ds d hR => rd_Rail_init K T.Z hR)⟩
  exact (pss_cons (ps_if (pt_not (pt_val (pe_call (ok_is_rail T) (hr.mono (by decide)) (by rfl) T.m_is_rail T.F_is_rail.kp (bd_is_rail T) .nil pass0 (pa_cons (pv 1) (pa_cons (pv 2) (pa_cons (pv 3) pa_nil)))))) (pss_one (ps_never)) pss_nil)
  (pss_cons (ps_fld (pv 0) (pv 1) rfl)
  (pss_cons (ps_fld (pv 0) (pv 2) rfl)
  (pss_one (ps_fld (pv 0) (pe_callTy call_gTuple (by rfl) T.b_tuple (by decide +kernel) (pa_cons (pe_lc (own := [("speed", 4), ("hoist", 5)]) (g := (gTup K 2 (gCons (gName 4) (gCons (gName 5) gNil)))) (tt := tYes) (by rfl) sc_Rail_init.nd (pi_list (pv 3)) (blkOk_by (own := [("speed", 4), ("hoist", 5)]) (N := nm_Rail_init) (sc := defScope s_Rail_init) (by decide +kernel)) (fun _ _ _ _ _ => (pg_tup rfl (pgs_cons (pg_name (i := 4) sc_Rail_init.nd rfl (Or.inl rfl)) (pgs_cons (pg_name (i := 5) sc_Rail_init.nd rfl (Or.inl rfl)) pgs_nil)))) (fun _ _ _ _ _ => pts_nil) (fun _ _ _ _ _ => (pe_tup (pa_cons (pv 4) (pa_cons (pv 5) pa_nil))))) pa_nil)) rfl)))))
theorem bd_law (T : Tx K mg) : Binds K T.d_law ["_law_script"] [] := T.F_law.binds (ps := ["_law_script"]) fun _ _ _ _ _ _ us hl => match us, hl with | [_], _ => rfl
theorem ok_law (T : Tx K mg) (hsm : ∃ o, base.get? sysModules = some o) : FnG P w K mg base CX0 6 T.a_law T.d_law ["_law_script"] (sp_law K) := by
  refine fnG_of T.F_law sc_law (fun vs H Q E h => len_law h) (fun cdv A outer s H vs Q E hr h => ?_)
  refine ⟨t_law K T.A, PSs.nox ?_, body_D (N := nm_law) h (fun ds d hR => by rw [ln_law hR]; decide) (fun ds d hR => rd_law K T.Z hR)⟩
  exact (pss_cons (ps_for PassesOwn.never rfl (pi_range1 (by rfl) T.b_range (pa_cons (pe_op op_gAdd (pe_int) (pe_callB (call_gMin rfl) (by rfl) T.b_min (by decide +kernel) (pa_cons (pe_int) (pa_cons (pe_callB call_gLen (by rfl) T.b_len (by decide +kernel) (pa_cons (pv 0) pa_nil)) pa_nil)))) pa_nil)) (pg_name (i := 1) sc_law.nd rfl (by first | exact Or.inl rfl | exact Or.inr rfl)) (pss_cons (ps_set (i := 2) sc_law.nd rfl (by first | exact Or.inl rfl | exact Or.inr rfl) (pe_op op_gMul (pe_int) (pv 1)))
  (pss_cons (ps_set (i := 3) sc_law.nd rfl (by first | exact Or.inl rfl | exact Or.inr rfl) (pe_call (ok_l_rail T) (hr.1.mono (by decide)) (by rfl) T.m_l_rail T.F_l_rail.kp (bd_l_rail T) .nil pass0 (pa_cons (pv 0) (pa_cons (pv 2) pa_nil))))
  (pss_cons (ps_set (i := 4) sc_law.nd rfl (by first | exact Or.inl rfl | exact Or.inr rfl) (pe_callTy call_gList (by rfl) T.b_list (by decide +kernel) (pa_cons (pe_ix ix_seq (pv 3) (pe_int) (fun _ _ => rfl)) pa_nil)))
  (pss_cons (ps_set (i := 5) sc_law.nd rfl (by first | exact Or.inl rfl | exact Or.inr rfl) (pe_make T.mk_Rail (ok_Rail_init T) (hr.1.mono (by decide)) (by rfl) T.g_Rail (bd_Rail_init T) .nil pass0 (pa_cons (pe_ix ix_seq (pv 3) (pe_int) (fun _ _ => rfl)) (pa_cons (pe_ix ix_seq (pv 3) (pe_int) (fun _ _ => rfl)) (pa_cons (pv 4) pa_nil)))))
  (pss_cons (ps_if (pt_cmpR (op_gNe hr.1.units) (pv 4) (pe_ix ix_seq (pv 3) (pe_int) (fun _ _ => rfl)) (nomark _)) (pss_one (ps_ret (pe_bl))) pss_nil)
  (pss_cons (ps_expr (pe_bm0 PySem.F.plainAttrs_list PySem.F.slot_list_clear PySem.F.type_list_clear mt_clear (pv 4)))
  (pss_cons (ps_set (i := 6) sc_law.nd rfl (by first | exact Or.inl rfl | exact Or.inr rfl) (pe_call (ok_l_spread T) (hr.1.mono (by decide)) (by rfl) T.m_l_spread T.F_l_spread.kp (bd_l_spread T) .nil pass0 (pa_cons (pv 0) (pa_cons (pe_op op_gAdd (pv 2) (pe_int)) (pa_cons (pv 3) pa_nil)))))
  (pss_cons (ps_set (i := 7) sc_law.nd rfl (by first | exact Or.inl rfl | exact Or.inr rfl) (pe_call (ok_l_number T) (hr.1.mono (by decide)) (by rfl) T.m_l_number T.F_l_number.kp (bd_l_number T) .nil pass0 (pa_cons (pv 0) (pa_cons (pe_op op_gAdd (pv 2) (pe_int)) pa_nil))))
  (pss_cons (ps_for PassesOwn.never rfl (pi_tup (pe_tup (pa_cons (pv 6) (pa_cons (pe_call (ok_l_bent T) (hr.1.mono (by decide)) (by rfl) T.m_l_bent T.F_l_bent.kp (bd_l_bent T) .nil pass0 (pa_cons (pv 6) (pa_cons (pv 7) (pa_cons (pe_ix ix_seq (pv 3) (pe_int) (fun _ _ => rfl)) pa_nil)))) (pa_cons (pe_call (ok_l_bent T) (hr.1.mono (by decide)) (by rfl) T.m_l_bent T.F_l_bent.kp (bd_l_bent T) .nil pass0 (pa_cons (pv 6) (pa_cons (pe_op op_gFdv (pv 7) (pe_int)) (pa_cons (pe_ix ix_seq (pv 3) (pe_int) (fun _ _ => rfl)) pa_nil)))) (pa_cons (pe_non) (pa_cons (pe_int) (pa_cons (pe_str) (pa_cons (pe_dnewK) pa_nil))))))))) (pg_name (i := 8) sc_law.nd rfl (by first | exact Or.inl rfl | exact Or.inr rfl)) (pss_cons (ps_set (i := 9) sc_law.nd rfl (by first | exact Or.inl rfl | exact Or.inr rfl) (pe_callB (call_gReprA hr.2 hr.1.units hsm) (by rfl) T.b_repr (by decide +kernel) (pa_cons (pv 8) pa_nil)))
  (pss_one (ps_if (PW.pt (pw_or (pt_cmpR (op_gNe hr.1.units) (pe_callB (call_gReprA hr.2 hr.1.units hsm) (by rfl) T.b_repr (by decide +kernel) (pa_cons (pe_meth (pv 5) T.Z.cl_Rail T.me_Rail_are_apart (ok_Rail_are_apart T) (hr.1.mono (by decide)) (bd_Rail_are_apart T) .nil pass0 (pa_cons (pv 8) pa_nil)) pa_nil)) (pe_callB (call_gReprA hr.2 hr.1.units hsm) (by rfl) T.b_repr (by decide +kernel) (pa_cons (pe_call (ok_l_are_apart T) (hr.1.mono (by decide)) (by rfl) T.m_l_are_apart T.F_l_are_apart.kp (bd_l_are_apart T) .nil pass0 (pa_cons (pv 3) (pa_cons (pv 8) pa_nil))) pa_nil)) (nomark _)) (pw_or1 (pt_cmpR (op_gNe hr.1.units) (pe_callB (call_gReprA hr.2 hr.1.units hsm) (by rfl) T.b_repr (by decide +kernel) (pa_cons (pv 8) pa_nil)) (pv 9) (nomark _))))) (pss_one (ps_ret (pe_bl))) pss_nil))))
  (pss_cons (ps_set (i := 10) sc_law.nd rfl (by first | exact Or.inl rfl | exact Or.inr rfl) (pe_ix ix_seq (pe_lst (pa_cons (pe_non) (pa_cons (pe_bl) (pa_cons (pe_bl) (pa_cons (pe_str) (pa_cons (pe_lst (pa_cons (pe_int) pa_nil)) (pa_cons (pe_tup (pa_cons (pe_int) pa_nil)) (pa_cons (pe_dnewK) (pa_cons (pe_op op_gSub (pe_un un_neg (pe_int)) (pv 7)) (pa_cons (pe_op op_gAdd (pe_callB call_gLen (by rfl) T.b_len (by decide +kernel) (pa_cons (pe_ix ix_seq (pv 3) (pe_int) (fun _ _ => rfl)) pa_nil)) (pe_op op_gMod (pe_op op_gFdv (pv 7) (pe_int)) (pe_int))) pa_nil)))))))))) (pe_op op_gMod (pv 7) (pe_int)) (fun _ _ => rfl)))
  (pss_one (ps_if (PW.pt (pw_or (pt_not (pt_val (pe_callG (ok_l_told_right T hsm) (Calm.mono hr (by decide)) (by rfl) T.m_l_told_right T.F_l_told_right.kp (bd_l_told_right T) pass0 (pa_cons (pv 5) (pa_cons (pv 3) pa_nil))))) (pw_or1 (pt_not (pt_val (pe_call (ok_l_no_crane T) (hr.1.mono (by decide)) (by rfl) T.m_l_no_crane T.F_l_no_crane.kp (bd_l_no_crane T) .nil pass0 (pa_cons (pv 5) (pa_cons (pv 10) pa_nil)))))))) (pss_one (ps_ret (pe_bl))) pss_nil)))))))))))))
  (pss_one (ps_ret (pe_bl))))
end
theorem all_mk {l : PySem.W.OpenLaw} {w : World} {K : PySem.W.Frag} {h : Heap} {mg : Str → Option Value} {fa : Addr} (X : K.In h) (G : h.Ns mainGlobals mg) (hfa : mg "law" = some (.ref fa))
    {f0 f1 f2 f3 f4 f5 f6 f7 f8 f9 f10 f11 f12 f13 f14 f15 c_Rail c_CraneError c_BadName c_BadNumber c_BadRail c_BadStack c_BadPlaces c_BadText c_Twice c_NoCrane c_NoStack c_NoBox c_NoJob c_Same c_Buried c_TooHigh c_TooHeavy c_Empty c_NoReach c_BadJournal : Addr}
    {od0 an0 od1 an1 od2 an2 od3 an3 od4 an4 od5 an5 od6 an6 od7 an7 od8 an8 od9 an9 od10 an10 od11 an11 od12 an12 od13 an13 od14 an14 od15 an15 : Option Addr} {sl0 sl1 sl2 sl3 sl4 sl5 sl6 sl7 sl8 sl9 sl10 sl11 sl12 sl13 sl14 sl15 : Array (Option Value)} {oc0 kV0 dc0 pm0 cd0 ct0 oc1 kV1 dc1 pm1 cd1 ct1 oc2 kV2 dc2 pm2 cd2 ct2 oc3 kV3 dc3 pm3 cd3 ct3 oc4 kV4 dc4 pm4 cd4 ct4 oc5 kV5 dc5 pm5 cd5 ct5 oc6 kV6 dc6 pm6 cd6 ct6 oc7 kV7 dc7 pm7 cd7 ct7 oc8 kV8 dc8 pm8 cd8 ct8 oc9 kV9 dc9 pm9 cd9 ct9 oc10 kV10 dc10 pm10 cd10 ct10 oc11 kV11 dc11 pm11 cd11 ct11 oc12 kV12 dc12 pm12 cd12 ct12 oc13 kV13 dc13 pm13 cd13 ct13 oc14 kV14 dc14 pm14 cd14 ct14 oc15 kV15 dc15 pm15 cd15 ct15 : Value}
    (ac_Rail : PySem.W.nsIn K mainGlobals "Rail" = some (some (.ref c_Rail))) (pg_Rail : PySem.W.plainGet K c_Rail Str.empty = true) (hd_Rail : PySem.W.hasDictIn K c_Rail = true) (po_Rail : PySem.W.plainOver K c_Rail = true) (sa_Rail : PySem.W.findIn K (.ref c_Rail) "__setattr__" = some (some (.builtin "object.__setattr__"))) (mk_Rail : PySem.W.makesIn K c_Rail = true) (kc_Rail : PySem.W.keepIn K (.ref c_Rail) = true)
    (nf_Rail_end : PySem.W.findIn K (.ref c_Rail) "end" = some none)
    (nf_Rail_room : PySem.W.findIn K (.ref c_Rail) "room" = some none)
    (nf_Rail_cranes : PySem.W.findIn K (.ref c_Rail) "cranes" = some none)
    (ac_CraneError : PySem.W.nsIn K mainGlobals "CraneError" = some (some (.ref c_CraneError)))
    (ac_BadName : PySem.W.nsIn K mainGlobals "BadName" = some (some (.ref c_BadName)))
    (ac_BadNumber : PySem.W.nsIn K mainGlobals "BadNumber" = some (some (.ref c_BadNumber)))
    (ac_BadRail : PySem.W.nsIn K mainGlobals "BadRail" = some (some (.ref c_BadRail)))
    (ac_BadStack : PySem.W.nsIn K mainGlobals "BadStack" = some (some (.ref c_BadStack)))
    (ac_BadPlaces : PySem.W.nsIn K mainGlobals "BadPlaces" = some (some (.ref c_BadPlaces)))
    (ac_BadText : PySem.W.nsIn K mainGlobals "BadText" = some (some (.ref c_BadText)))
    (ac_Twice : PySem.W.nsIn K mainGlobals "Twice" = some (some (.ref c_Twice)))
    (ac_NoCrane : PySem.W.nsIn K mainGlobals "NoCrane" = some (some (.ref c_NoCrane)))
    (ac_NoStack : PySem.W.nsIn K mainGlobals "NoStack" = some (some (.ref c_NoStack)))
    (ac_NoBox : PySem.W.nsIn K mainGlobals "NoBox" = some (some (.ref c_NoBox)))
    (ac_NoJob : PySem.W.nsIn K mainGlobals "NoJob" = some (some (.ref c_NoJob)))
    (ac_Same : PySem.W.nsIn K mainGlobals "Same" = some (some (.ref c_Same)))
    (ac_Buried : PySem.W.nsIn K mainGlobals "Buried" = some (some (.ref c_Buried)))
    (ac_TooHigh : PySem.W.nsIn K mainGlobals "TooHigh" = some (some (.ref c_TooHigh)))
    (ac_TooHeavy : PySem.W.nsIn K mainGlobals "TooHeavy" = some (some (.ref c_TooHeavy)))
    (ac_Empty : PySem.W.nsIn K mainGlobals "Empty" = some (some (.ref c_Empty)))
    (ac_NoReach : PySem.W.nsIn K mainGlobals "NoReach" = some (some (.ref c_NoReach)))
    (ac_BadJournal : PySem.W.nsIn K mainGlobals "BadJournal" = some (some (.ref c_BadJournal)))
    (x_NoCrane : PySem.W.excIn K c_NoCrane [.type "ValueError", .type "Exception", .type "BaseException", .type "object"] "ValueError.__new__" = true) (xk_NoCrane : PySem.W.keepIn K (.ref c_NoCrane) = true) (xb_NoCrane : PySem.W.subIn K (.ref c_NoCrane) (.type "BaseException") = some true) (xt_NoCrane : PySem.W.typeIn K (.ref c_NoCrane) = some (.type "type"))
    (eg_NoCrane : PySem.W.findIn K (.ref c_NoCrane) "__getattribute__" = some (some (.builtin "BaseException.__getattribute__"))) (ek_NoCrane : PySem.W.findIn K (.ref c_NoCrane) "__getattr__" = some none) (es_NoCrane : PySem.W.subIn K (.ref c_NoCrane) (.type "BaseException") = some true) (ed_NoCrane : PySem.W.hasDictIn K c_NoCrane = true) (ea_NoCrane : PySem.W.findIn K (.ref c_NoCrane) "__class__" = some (some (.builtin "object.__class__"))) (en_NoCrane : PySem.W.specialIn K (.builtin "object.__class__") "__get__" = some (some (.builtin "getset_descriptor.__get__"))) (et_NoCrane : PySem.W.takesIn K (.builtin "object.__class__") = some true) (em_NoCrane : PySem.W.mroIn K c_NoCrane (.type "object") = some true) (ex_NoCrane : PySem.W.exmOne K (.ref c_NoCrane) (.ref c_CraneError) = some true)
    (i_NoCrane_BadName : PySem.W.kitOne K (.ref c_NoCrane) (.ref c_BadName) = some false)
    (i_NoCrane_BadNumber : PySem.W.kitOne K (.ref c_NoCrane) (.ref c_BadNumber) = some false)
    (i_NoCrane_BadRail : PySem.W.kitOne K (.ref c_NoCrane) (.ref c_BadRail) = some false)
    (i_NoCrane_BadStack : PySem.W.kitOne K (.ref c_NoCrane) (.ref c_BadStack) = some false)
    (i_NoCrane_BadPlaces : PySem.W.kitOne K (.ref c_NoCrane) (.ref c_BadPlaces) = some false)
    (i_NoCrane_BadText : PySem.W.kitOne K (.ref c_NoCrane) (.ref c_BadText) = some false)
    (i_NoCrane_Twice : PySem.W.kitOne K (.ref c_NoCrane) (.ref c_Twice) = some false)
    (i_NoCrane_NoCrane : PySem.W.kitOne K (.ref c_NoCrane) (.ref c_NoCrane) = some true)
    (i_NoCrane_NoStack : PySem.W.kitOne K (.ref c_NoCrane) (.ref c_NoStack) = some false)
    (i_NoCrane_NoBox : PySem.W.kitOne K (.ref c_NoCrane) (.ref c_NoBox) = some false)
    (i_NoCrane_NoJob : PySem.W.kitOne K (.ref c_NoCrane) (.ref c_NoJob) = some false)
    (i_NoCrane_Same : PySem.W.kitOne K (.ref c_NoCrane) (.ref c_Same) = some false)
    (i_NoCrane_Buried : PySem.W.kitOne K (.ref c_NoCrane) (.ref c_Buried) = some false)
    (i_NoCrane_TooHigh : PySem.W.kitOne K (.ref c_NoCrane) (.ref c_TooHigh) = some false)
    (i_NoCrane_TooHeavy : PySem.W.kitOne K (.ref c_NoCrane) (.ref c_TooHeavy) = some false)
    (i_NoCrane_Empty : PySem.W.kitOne K (.ref c_NoCrane) (.ref c_Empty) = some false)
    (i_NoCrane_NoReach : PySem.W.kitOne K (.ref c_NoCrane) (.ref c_NoReach) = some false)
    (i_NoCrane_BadJournal : PySem.W.kitOne K (.ref c_NoCrane) (.ref c_BadJournal) = some false)
    (i_NoCrane_ValueError : PySem.W.kitOne K (.ref c_NoCrane) (.type "ValueError") = some true)
    (a0 : PySem.W.nsIn K mainGlobals "is_among" = some (some (.ref f0))) (l0 : K.lookup f0 = some ⟨oc0, od0, .func (PySem.W.fnOf "is_among" "is_among" (defArgs s_is_among) (defBody s_is_among) (defScope s_is_among) .none kV0 dc0 pm0 an0 cd0 ct0), sl0⟩) (c0 : PySem.W.codeIn K cd0 "is_among" = true) (k0 : PySem.W.keepIn K (.ref f0) = true)
    (a1 : PySem.W.findIn K (.ref c_Rail) "__init__" = some (some (.ref f1))) (i1 : PySem.W.isFn K (.ref f1) = true) (l1 : K.lookup f1 = some ⟨oc1, od1, .func (PySem.W.fnOf "__init__" "Rail.__init__" (defArgs s_Rail_init) (defBody s_Rail_init) (defScope s_Rail_init) .none kV1 dc1 pm1 an1 cd1 ct1), sl1⟩) (c1 : PySem.W.codeIn K cd1 "Rail.__init__" = true) (k1 : PySem.W.keepIn K (.ref f1) = true)
    (a2 : PySem.W.findIn K (.ref c_Rail) "reach" = some (some (.ref f2))) (i2 : PySem.W.isFn K (.ref f2) = true) (l2 : K.lookup f2 = some ⟨oc2, od2, .func (PySem.W.fnOf "reach" "Rail.reach" (defArgs s_Rail_reach) (defBody s_Rail_reach) (defScope s_Rail_reach) .none kV2 dc2 pm2 an2 cd2 ct2), sl2⟩) (c2 : PySem.W.codeIn K cd2 "Rail.reach" = true) (k2 : PySem.W.keepIn K (.ref f2) = true)
    (a3 : PySem.W.findIn K (.ref c_Rail) "are_apart" = some (some (.ref f3))) (i3 : PySem.W.isFn K (.ref f3) = true) (l3 : K.lookup f3 = some ⟨oc3, od3, .func (PySem.W.fnOf "are_apart" "Rail.are_apart" (defArgs s_Rail_are_apart) (defBody s_Rail_are_apart) (defScope s_Rail_are_apart) .none kV3 dc3 pm3 an3 cd3 ct3), sl3⟩) (c3 : PySem.W.codeIn K cd3 "Rail.are_apart" = true) (k3 : PySem.W.keepIn K (.ref f3) = true)
    (a4 : PySem.W.nsIn K mainGlobals "_is_rail" = some (some (.ref f4))) (l4 : K.lookup f4 = some ⟨oc4, od4, .func (PySem.W.fnOf "_is_rail" "_is_rail" (defArgs s_is_rail) (defBody s_is_rail) (defScope s_is_rail) .none kV4 dc4 pm4 an4 cd4 ct4), sl4⟩) (c4 : PySem.W.codeIn K cd4 "_is_rail" = true) (k4 : PySem.W.keepIn K (.ref f4) = true)
    (a5 : PySem.W.nsIn K mainGlobals "_is_crane" = some (some (.ref f5))) (l5 : K.lookup f5 = some ⟨oc5, od5, .func (PySem.W.fnOf "_is_crane" "_is_crane" (defArgs s_is_crane) (defBody s_is_crane) (defScope s_is_crane) .none kV5 dc5 pm5 an5 cd5 ct5), sl5⟩) (c5 : PySem.W.codeIn K cd5 "_is_crane" = true) (k5 : PySem.W.keepIn K (.ref f5) = true)
    (a6 : PySem.W.nsIn K mainGlobals "_law_mixed" = some (some (.ref f6))) (l6 : K.lookup f6 = some ⟨oc6, od6, .func (PySem.W.fnOf "_law_mixed" "_law_mixed" (defArgs s_l_mixed) (defBody s_l_mixed) (defScope s_l_mixed) .none kV6 dc6 pm6 an6 cd6 ct6), sl6⟩) (c6 : PySem.W.codeIn K cd6 "_law_mixed" = true) (k6 : PySem.W.keepIn K (.ref f6) = true)
    (a7 : PySem.W.nsIn K mainGlobals "_law_number" = some (some (.ref f7))) (l7 : K.lookup f7 = some ⟨oc7, od7, .func (PySem.W.fnOf "_law_number" "_law_number" (defArgs s_l_number) (defBody s_l_number) (defScope s_l_number) .none kV7 dc7 pm7 an7 cd7 ct7), sl7⟩) (c7 : PySem.W.codeIn K cd7 "_law_number" = true) (k7 : PySem.W.keepIn K (.ref f7) = true)
    (a8 : PySem.W.nsIn K mainGlobals "_law_kind" = some (some (.ref f8))) (l8 : K.lookup f8 = some ⟨oc8, od8, .func (PySem.W.fnOf "_law_kind" "_law_kind" (defArgs s_l_kind) (defBody s_l_kind) (defScope s_l_kind) .none kV8 dc8 pm8 an8 cd8 ct8), sl8⟩) (c8 : PySem.W.codeIn K cd8 "_law_kind" = true) (k8 : PySem.W.keepIn K (.ref f8) = true)
    (a9 : PySem.W.nsIn K mainGlobals "_law_rail" = some (some (.ref f9))) (l9 : K.lookup f9 = some ⟨oc9, od9, .func (PySem.W.fnOf "_law_rail" "_law_rail" (defArgs s_l_rail) (defBody s_l_rail) (defScope s_l_rail) .none kV9 dc9 pm9 an9 cd9 ct9), sl9⟩) (c9 : PySem.W.codeIn K cd9 "_law_rail" = true) (k9 : PySem.W.keepIn K (.ref f9) = true)
    (a10 : PySem.W.nsIn K mainGlobals "_law_spread" = some (some (.ref f10))) (l10 : K.lookup f10 = some ⟨oc10, od10, .func (PySem.W.fnOf "_law_spread" "_law_spread" (defArgs s_l_spread) (defBody s_l_spread) (defScope s_l_spread) .none kV10 dc10 pm10 an10 cd10 ct10), sl10⟩) (c10 : PySem.W.codeIn K cd10 "_law_spread" = true) (k10 : PySem.W.keepIn K (.ref f10) = true)
    (a11 : PySem.W.nsIn K mainGlobals "_law_bent" = some (some (.ref f11))) (l11 : K.lookup f11 = some ⟨oc11, od11, .func (PySem.W.fnOf "_law_bent" "_law_bent" (defArgs s_l_bent) (defBody s_l_bent) (defScope s_l_bent) .none kV11 dc11 pm11 an11 cd11 ct11), sl11⟩) (c11 : PySem.W.codeIn K cd11 "_law_bent" = true) (k11 : PySem.W.keepIn K (.ref f11) = true)
    (a12 : PySem.W.nsIn K mainGlobals "_law_are_apart" = some (some (.ref f12))) (l12 : K.lookup f12 = some ⟨oc12, od12, .func (PySem.W.fnOf "_law_are_apart" "_law_are_apart" (defArgs s_l_are_apart) (defBody s_l_are_apart) (defScope s_l_are_apart) .none kV12 dc12 pm12 an12 cd12 ct12), sl12⟩) (c12 : PySem.W.codeIn K cd12 "_law_are_apart" = true) (k12 : PySem.W.keepIn K (.ref f12) = true)
    (a13 : PySem.W.nsIn K mainGlobals "_law_no_crane" = some (some (.ref f13))) (l13 : K.lookup f13 = some ⟨oc13, od13, .func (PySem.W.fnOf "_law_no_crane" "_law_no_crane" (defArgs s_l_no_crane) (defBody s_l_no_crane) (defScope s_l_no_crane) .none kV13 dc13 pm13 an13 cd13 ct13), sl13⟩) (c13 : PySem.W.codeIn K cd13 "_law_no_crane" = true) (k13 : PySem.W.keepIn K (.ref f13) = true)
    (a14 : PySem.W.nsIn K mainGlobals "_law_told_right" = some (some (.ref f14))) (l14 : K.lookup f14 = some ⟨oc14, od14, .func (PySem.W.fnOf "_law_told_right" "_law_told_right" (defArgs s_l_told_right) (defBody s_l_told_right) (defScope s_l_told_right) .none kV14 dc14 pm14 an14 cd14 ct14), sl14⟩) (c14 : PySem.W.codeIn K cd14 "_law_told_right" = true) (k14 : PySem.W.keepIn K (.ref f14) = true)
    (a15 : PySem.W.nsIn K mainGlobals "law" = some (some (.ref f15))) (l15 : K.lookup f15 = some ⟨oc15, od15, .func (PySem.W.fnOf "law" "law" (defArgs s_law) (defBody s_law) (defScope s_law) .none kV15 dc15 pm15 an15 cd15 ct15), sl15⟩) (c15 : PySem.W.codeIn K cd15 "law" = true) (k15 : PySem.W.keepIn K (.ref f15) = true)
    (n_ValueError : PySem.W.nsIn K mainGlobals "ValueError" = some none)
    (n_all : PySem.W.nsIn K mainGlobals "all" = some none)
    (n_bool : PySem.W.nsIn K mainGlobals "bool" = some none)
    (n_int : PySem.W.nsIn K mainGlobals "int" = some none)
    (n_isinstance : PySem.W.nsIn K mainGlobals "isinstance" = some none)
    (n_len : PySem.W.nsIn K mainGlobals "len" = some none)
    (n_list : PySem.W.nsIn K mainGlobals "list" = some none)
    (n_max : PySem.W.nsIn K mainGlobals "max" = some none)
    (n_min : PySem.W.nsIn K mainGlobals "min" = some none)
    (n_range : PySem.W.nsIn K mainGlobals "range" = some none)
    (n_repr : PySem.W.nsIn K mainGlobals "repr" = some none)
    (n_tuple : PySem.W.nsIn K mainGlobals "tuple" = some none)
    {tk_GREATEST_END : Tok} (g_GREATEST_END : PySem.W.nsIn K mainGlobals "GREATEST_END" = some (some (.int 1000000000000 tk_GREATEST_END)))
    {tk_GREATEST_HOIST : Tok} (g_GREATEST_HOIST : PySem.W.nsIn K mainGlobals "GREATEST_HOIST" = some (some (.int 1000 tk_GREATEST_HOIST)))
    {tk_GREATEST_ROOM : Tok} (g_GREATEST_ROOM : PySem.W.nsIn K mainGlobals "GREATEST_ROOM" = some (some (.int 1000000 tk_GREATEST_ROOM)))
    {tk_GREATEST_SPEED : Tok} (g_GREATEST_SPEED : PySem.W.nsIn K mainGlobals "GREATEST_SPEED" = some (some (.int 1000000000 tk_GREATEST_SPEED)))
    {tk_MOST_CRANES : Tok} (g_MOST_CRANES : PySem.W.nsIn K mainGlobals "MOST_CRANES" = some (some (.int 6 tk_MOST_CRANES)))
    : ∃ fd : FuncData, (∀ (s : Shared) (v : Value), BindsTo s fd ⟨[v], []⟩ [("_law_script", v)]) ∧ ∀ base : Heap, K.In base → base.Ns mainGlobals mg → (∃ o, base.get? sysModules = some o) → FnG l.prog w K mg base CX0 6 fa fd ["_law_script"] (sp_law K) := by
  have e := hfa.symm.trans (PySem.W.mg_of X G a15)
  cases e
  let T : Tx K mg := ⟨⟨c_Rail, c_CraneError, c_BadName, c_BadNumber, c_BadRail, c_BadStack, c_BadPlaces, c_BadText, c_Twice, c_NoCrane, c_NoStack, c_NoBox, c_NoJob, c_Same, c_Buried, c_TooHigh, c_TooHeavy, c_Empty, c_NoReach, c_BadJournal⟩, _, _, fun_mk (st := s_is_among) l0 c0 k0, PySem.W.mg_of X G a0, _, _, fun_mk (st := s_Rail_init) l1 c1 k1, ⟨mk_Rail, a1, i1, kc_Rail⟩, _, _, fun_mk (st := s_Rail_reach) l2 c2 k2, ⟨a2, i2, k2⟩, _, _, fun_mk (st := s_Rail_are_apart) l3 c3 k3, ⟨a3, i3, k3⟩, _, _, fun_mk (st := s_is_rail) l4 c4 k4, PySem.W.mg_of X G a4, _, _, fun_mk (st := s_is_crane) l5 c5 k5, PySem.W.mg_of X G a5, _, _, fun_mk (st := s_l_mixed) l6 c6 k6, PySem.W.mg_of X G a6, _, _, fun_mk (st := s_l_number) l7 c7 k7, PySem.W.mg_of X G a7, _, _, fun_mk (st := s_l_kind) l8 c8 k8, PySem.W.mg_of X G a8, _, _, fun_mk (st := s_l_rail) l9 c9 k9, PySem.W.mg_of X G a9, _, _, fun_mk (st := s_l_spread) l10 c10 k10, PySem.W.mg_of X G a10, _, _, fun_mk (st := s_l_bent) l11 c11 k11, PySem.W.mg_of X G a11, _, _, fun_mk (st := s_l_are_apart) l12 c12 k12, PySem.W.mg_of X G a12, _, _, fun_mk (st := s_l_no_crane) l13 c13 k13, PySem.W.mg_of X G a13, _, _, fun_mk (st := s_l_told_right) l14 c14 k14, PySem.W.mg_of X G a14, _, _, fun_mk (st := s_law) l15 c15 k15, PySem.W.mg_of X G a15, PySem.W.mg_of X G ac_Rail, PySem.W.mg_of X G ac_CraneError, PySem.W.mg_of X G ac_BadName, PySem.W.mg_of X G ac_BadNumber, PySem.W.mg_of X G ac_BadRail, PySem.W.mg_of X G ac_BadStack, PySem.W.mg_of X G ac_BadPlaces, PySem.W.mg_of X G ac_BadText, PySem.W.mg_of X G ac_Twice, PySem.W.mg_of X G ac_NoCrane, PySem.W.mg_of X G ac_NoStack, PySem.W.mg_of X G ac_NoBox, PySem.W.mg_of X G ac_NoJob, PySem.W.mg_of X G ac_Same, PySem.W.mg_of X G ac_Buried, PySem.W.mg_of X G ac_TooHigh, PySem.W.mg_of X G ac_TooHeavy, PySem.W.mg_of X G ac_Empty, PySem.W.mg_of X G ac_NoReach, PySem.W.mg_of X G ac_BadJournal, x_NoCrane, xk_NoCrane, xb_NoCrane, xt_NoCrane, ⟨⟨pg_Rail, hd_Rail, po_Rail, sa_Rail⟩, nf_Rail_end, nf_Rail_room, nf_Rail_cranes, ⟨eg_NoCrane, ek_NoCrane, es_NoCrane, ed_NoCrane, ea_NoCrane, en_NoCrane, et_NoCrane, em_NoCrane⟩, ex_NoCrane, i_NoCrane_BadName, i_NoCrane_BadNumber, i_NoCrane_BadRail, i_NoCrane_BadStack, i_NoCrane_BadPlaces, i_NoCrane_BadText, i_NoCrane_Twice, i_NoCrane_NoCrane, i_NoCrane_NoStack, i_NoCrane_NoBox, i_NoCrane_NoJob, i_NoCrane_Same, i_NoCrane_Buried, i_NoCrane_TooHigh, i_NoCrane_TooHeavy, i_NoCrane_Empty, i_NoCrane_NoReach, i_NoCrane_BadJournal, i_NoCrane_ValueError⟩, PySem.W.mg_none_of X G n_ValueError, PySem.W.mg_none_of X G n_all, PySem.W.mg_none_of X G n_bool, PySem.W.mg_none_of X G n_int, PySem.W.mg_none_of X G n_isinstance, PySem.W.mg_none_of X G n_len, PySem.W.mg_none_of X G n_list, PySem.W.mg_none_of X G n_max, PySem.W.mg_none_of X G n_min, PySem.W.mg_none_of X G n_range, PySem.W.mg_none_of X G n_repr, PySem.W.mg_none_of X G n_tuple, _, PySem.W.mg_of X G g_GREATEST_END, _, PySem.W.mg_of X G g_GREATEST_HOIST, _, PySem.W.mg_of X G g_GREATEST_ROOM, _, PySem.W.mg_of X G g_GREATEST_SPEED, _, PySem.W.mg_of X G g_MOST_CRANES⟩
  exact ⟨_, fun s v => .of_eq rfl, fun base _ _ hsm => ok_law T hsm⟩
theorem walk {l : PySem.W.OpenLaw} {q : Program} {loose : List Str} {XP : (Str → Option Value) → Heap → Prop} {YP : World → Heap → Prop} {d : DefRec} {K : Params → PySem.W.Frag} (hn : l.most = some 63) (hdf : d.params.defaults = []) (hq : PyProof.Rows.importsNone q = true)
    (hY : ∀ (w : World) (h : Heap), YP w h → (K w.params).In h)
    (F : ∀ (w : World) (mg : Str → Option Value) (fa : Addr) (h : Heap), (K w.params).In h → h.Ns mainGlobals mg → mg d.name = some (.ref fa) →
      ∃ fd : FuncData, (∀ (s : Shared) (u : Value), BindsTo s fd ⟨[u], []⟩ [("_law_script", u)]) ∧ ∀ base : Heap, (K w.params).In base → base.Ns mainGlobals mg → (∃ o, base.get? sysModules = some o) → FnG l.prog w (K w.params) mg base CX0 6 fa fd ["_law_script"] (sp_law (K w.params))) :
    PySem.W.WalkO q loose XP YP l.row.toRowW d [] (fun f vs => PySem.call f vs) :=
  walkG (n := 63) (k := 6) (x := "_law_script") (CX := fun _ => CX0) (sp := fun w => sp_law (K w.params)) hn (by decide) hdf ⟨rfl, by decide, by decide⟩ hq hY F (fun _ H a ns hl hS => law_end hl hS) fun _ _ _ _ _ z => z

end L02
open PySem PySem.W PyProof.Rows
set_option maxRecDepth 100000 in
set_option maxHeartbeats 0 in
theorem PySem.Challenge.cw_craneyard_k02_rails_holds : PySem.Challenge.rw_craneyard_k02_rails.Holds := by
  w_on; o_law; k_head; (case hw => w_witness2)
  k_fill
  refine L02.walk (l := PySem.Challenge.rw_craneyard_k02_rails) rfl rfl (by decide +kernel) (fun w h Y => PySem.W.kIn_of Y) ?F
  case F =>
    intro w mg fa h KX G hmg
    refine' L02.all_mk KX G hmg ?ac_Rail ?pg_Rail ?hd_Rail ?po_Rail ?sa_Rail ?mk_Rail ?kc_Rail ?nf_Rail_end ?nf_Rail_room ?nf_Rail_cranes ?ac_CraneError ?ac_BadName ?ac_BadNumber ?ac_BadRail ?ac_BadStack ?ac_BadPlaces ?ac_BadText ?ac_Twice ?ac_NoCrane ?ac_NoStack ?ac_NoBox ?ac_NoJob ?ac_Same ?ac_Buried ?ac_TooHigh ?ac_TooHeavy ?ac_Empty ?ac_NoReach ?ac_BadJournal ?x_NoCrane ?xk_NoCrane ?xb_NoCrane ?xt_NoCrane ?eg_NoCrane ?ek_NoCrane ?es_NoCrane ?ed_NoCrane ?ea_NoCrane ?en_NoCrane ?et_NoCrane ?em_NoCrane ?ex_NoCrane ?i_NoCrane_BadName ?i_NoCrane_BadNumber ?i_NoCrane_BadRail ?i_NoCrane_BadStack ?i_NoCrane_BadPlaces ?i_NoCrane_BadText ?i_NoCrane_Twice ?i_NoCrane_NoCrane ?i_NoCrane_NoStack ?i_NoCrane_NoBox ?i_NoCrane_NoJob ?i_NoCrane_Same ?i_NoCrane_Buried ?i_NoCrane_TooHigh ?i_NoCrane_TooHeavy ?i_NoCrane_Empty ?i_NoCrane_NoReach ?i_NoCrane_BadJournal ?i_NoCrane_ValueError ?a0 ?l0 ?c0 ?k0 ?a1 ?i1 ?l1 ?c1 ?k1 ?a2 ?i2 ?l2 ?c2 ?k2 ?a3 ?i3 ?l3 ?c3 ?k3 ?a4 ?l4 ?c4 ?k4 ?a5 ?l5 ?c5 ?k5 ?a6 ?l6 ?c6 ?k6 ?a7 ?l7 ?c7 ?k7 ?a8 ?l8 ?c8 ?k8 ?a9 ?l9 ?c9 ?k9 ?a10 ?l10 ?c10 ?k10 ?a11 ?l11 ?c11 ?k11 ?a12 ?l12 ?c12 ?k12 ?a13 ?l13 ?c13 ?k13 ?a14 ?l14 ?c14 ?k14 ?a15 ?l15 ?c15 ?k15 ?n_ValueError ?n_all ?n_bool ?n_int ?n_isinstance ?n_len ?n_list ?n_max ?n_min ?n_range ?n_repr ?n_tuple ?g_GREATEST_END ?g_GREATEST_HOIST ?g_GREATEST_ROOM ?g_GREATEST_SPEED ?g_MOST_CRANES
    (case ac_Rail => first | k_is | k_exc)
    (case pg_Rail => first | k_is | k_exc)
    (case hd_Rail => first | k_is | k_exc)
    (case po_Rail => first | k_is | k_exc)
    (case sa_Rail => first | k_is | k_exc)
    (case mk_Rail => first | k_is | k_exc)
    (case kc_Rail => first | k_is | k_exc)
    (case nf_Rail_end => first | k_is | k_exc)
    (case nf_Rail_room => first | k_is | k_exc)
    (case nf_Rail_cranes => first | k_is | k_exc)
    (case ac_CraneError => first | k_is | k_exc)
    (case ac_BadName => first | k_is | k_exc)
    (case ac_BadNumber => first | k_is | k_exc)
    (case ac_BadRail => first | k_is | k_exc)
    (case ac_BadStack => first | k_is | k_exc)
    (case ac_BadPlaces => first | k_is | k_exc)
    (case ac_BadText => first | k_is | k_exc)
    (case ac_Twice => first | k_is | k_exc)
    (case ac_NoCrane => first | k_is | k_exc)
    (case ac_NoStack => first | k_is | k_exc)
    (case ac_NoBox => first | k_is | k_exc)
    (case ac_NoJob => first | k_is | k_exc)
    (case ac_Same => first | k_is | k_exc)
    (case ac_Buried => first | k_is | k_exc)
    (case ac_TooHigh => first | k_is | k_exc)
    (case ac_TooHeavy => first | k_is | k_exc)
    (case ac_Empty => first | k_is | k_exc)
    (case ac_NoReach => first | k_is | k_exc)
    (case ac_BadJournal => first | k_is | k_exc)
    (case x_NoCrane => first | k_is | k_exc)
    (case xk_NoCrane => first | k_is | k_exc)
    (case xb_NoCrane => first | k_is | k_exc)
    (case xt_NoCrane => first | k_is | k_exc)
    (case eg_NoCrane => first | k_is | k_exc)
    (case ek_NoCrane => first | k_is | k_exc)
    (case es_NoCrane => first | k_is | k_exc)
    (case ed_NoCrane => first | k_is | k_exc)
    (case ea_NoCrane => first | k_is | k_exc)
    (case en_NoCrane => first | k_is | k_exc)
    (case et_NoCrane => first | k_is | k_exc)
    (case em_NoCrane => first | k_is | k_exc)
    (case ex_NoCrane => exact PySem.W.exm_ref (by k_is) (by k_is) (by k_is) (by k_is))
    (case i_NoCrane_BadName => exact Cy.kit_ref (by k_is) (by k_is) (by k_is) (by first | rfl | decide | k_is))
    (case i_NoCrane_BadNumber => exact Cy.kit_ref (by k_is) (by k_is) (by k_is) (by first | rfl | decide | k_is))
    (case i_NoCrane_BadRail => exact Cy.kit_ref (by k_is) (by k_is) (by k_is) (by first | rfl | decide | k_is))
    (case i_NoCrane_BadStack => exact Cy.kit_ref (by k_is) (by k_is) (by k_is) (by first | rfl | decide | k_is))
    (case i_NoCrane_BadPlaces => exact Cy.kit_ref (by k_is) (by k_is) (by k_is) (by first | rfl | decide | k_is))
    (case i_NoCrane_BadText => exact Cy.kit_ref (by k_is) (by k_is) (by k_is) (by first | rfl | decide | k_is))
    (case i_NoCrane_Twice => exact Cy.kit_ref (by k_is) (by k_is) (by k_is) (by first | rfl | decide | k_is))
    (case i_NoCrane_NoCrane => exact Cy.kit_self)
    (case i_NoCrane_NoStack => exact Cy.kit_ref (by k_is) (by k_is) (by k_is) (by first | rfl | decide | k_is))
    (case i_NoCrane_NoBox => exact Cy.kit_ref (by k_is) (by k_is) (by k_is) (by first | rfl | decide | k_is))
    (case i_NoCrane_NoJob => exact Cy.kit_ref (by k_is) (by k_is) (by k_is) (by first | rfl | decide | k_is))
    (case i_NoCrane_Same => exact Cy.kit_ref (by k_is) (by k_is) (by k_is) (by first | rfl | decide | k_is))
    (case i_NoCrane_Buried => exact Cy.kit_ref (by k_is) (by k_is) (by k_is) (by first | rfl | decide | k_is))
    (case i_NoCrane_TooHigh => exact Cy.kit_ref (by k_is) (by k_is) (by k_is) (by first | rfl | decide | k_is))
    (case i_NoCrane_TooHeavy => exact Cy.kit_ref (by k_is) (by k_is) (by k_is) (by first | rfl | decide | k_is))
    (case i_NoCrane_Empty => exact Cy.kit_ref (by k_is) (by k_is) (by k_is) (by first | rfl | decide | k_is))
    (case i_NoCrane_NoReach => exact Cy.kit_ref (by k_is) (by k_is) (by k_is) (by first | rfl | decide | k_is))
    (case i_NoCrane_BadJournal => exact Cy.kit_ref (by k_is) (by k_is) (by k_is) (by first | rfl | decide | k_is))
    (case i_NoCrane_ValueError => exact Cy.kit_typ (by decide +kernel) (by k_is))
    (case a0 => first | k_is | k_exc)
    (case l0 => first | k_is | k_exc)
    (case c0 => first | k_is | k_exc)
    (case k0 => first | k_is | k_exc)
    (case a1 => first | k_is | k_exc)
    (case i1 => first | k_is | k_exc)
    (case l1 => first | k_is | k_exc)
    (case c1 => first | k_is | k_exc)
    (case k1 => first | k_is | k_exc)
    (case a2 => first | k_is | k_exc)
    (case i2 => first | k_is | k_exc)
    (case l2 => first | k_is | k_exc)
    (case c2 => first | k_is | k_exc)
    (case k2 => first | k_is | k_exc)
    (case a3 => first | k_is | k_exc)
    (case i3 => first | k_is | k_exc)
    (case l3 => first | k_is | k_exc)
    (case c3 => first | k_is | k_exc)
    (case k3 => first | k_is | k_exc)
    (case a4 => first | k_is | k_exc)
    (case l4 => first | k_is | k_exc)
    (case c4 => first | k_is | k_exc)
    (case k4 => first | k_is | k_exc)
    (case a5 => first | k_is | k_exc)
    (case l5 => first | k_is | k_exc)
    (case c5 => first | k_is | k_exc)
    (case k5 => first | k_is | k_exc)
    (case a6 => first | k_is | k_exc)
    (case l6 => first | k_is | k_exc)
    (case c6 => first | k_is | k_exc)
    (case k6 => first | k_is | k_exc)
    (case a7 => first | k_is | k_exc)
    (case l7 => first | k_is | k_exc)
    (case c7 => first | k_is | k_exc)
    (case k7 => first | k_is | k_exc)
    (case a8 => first | k_is | k_exc)
    (case l8 => first | k_is | k_exc)
    (case c8 => first | k_is | k_exc)
    (case k8 => first | k_is | k_exc)
    (case a9 => first | k_is | k_exc)
    (case l9 => first | k_is | k_exc)
    (case c9 => first | k_is | k_exc)
    (case k9 => first | k_is | k_exc)
    (case a10 => first | k_is | k_exc)
    (case l10 => first | k_is | k_exc)
    (case c10 => first | k_is | k_exc)
    (case k10 => first | k_is | k_exc)
    (case a11 => first | k_is | k_exc)
    (case l11 => first | k_is | k_exc)
    (case c11 => first | k_is | k_exc)
    (case k11 => first | k_is | k_exc)
    (case a12 => first | k_is | k_exc)
    (case l12 => first | k_is | k_exc)
    (case c12 => first | k_is | k_exc)
    (case k12 => first | k_is | k_exc)
    (case a13 => first | k_is | k_exc)
    (case l13 => first | k_is | k_exc)
    (case c13 => first | k_is | k_exc)
    (case k13 => first | k_is | k_exc)
    (case a14 => first | k_is | k_exc)
    (case l14 => first | k_is | k_exc)
    (case c14 => first | k_is | k_exc)
    (case k14 => first | k_is | k_exc)
    (case a15 => first | k_is | k_exc)
    (case l15 => first | k_is | k_exc)
    (case c15 => first | k_is | k_exc)
    (case k15 => first | k_is | k_exc)
    (case n_ValueError => first | k_is | k_exc)
    (case n_all => first | k_is | k_exc)
    (case n_bool => first | k_is | k_exc)
    (case n_int => first | k_is | k_exc)
    (case n_isinstance => first | k_is | k_exc)
    (case n_len => first | k_is | k_exc)
    (case n_list => first | k_is | k_exc)
    (case n_max => first | k_is | k_exc)
    (case n_min => first | k_is | k_exc)
    (case n_range => first | k_is | k_exc)
    (case n_repr => first | k_is | k_exc)
    (case n_tuple => first | k_is | k_exc)
    (case g_GREATEST_END => first | k_is | k_exc)
    (case g_GREATEST_HOIST => first | k_is | k_exc)
    (case g_GREATEST_ROOM => first | k_is | k_exc)
    (case g_GREATEST_SPEED => first | k_is | k_exc)
    (case g_MOST_CRANES => first | k_is | k_exc)

