import PyProof.Rows.All
import Wide.All
import OpenK.AllK
import Wide.FinOn
import HandS.ForMost
import HandS.Exc
import HandS.TryOnly
import HandS.ExcOwn
import HandS.WordsExc
import HandS.Wide
import HandS.TupAny
import HandS.TupMul
import HandS.Iter
import HandS.Zip
import HandS.IsInst
import HandS.More
import HandS.SortInts
import HandS.RaiseMore
import HandS.Comp
import PyProof.ReprRoads
import HandS.AnyAll
import KE.GoesEnum
import HandS.ExcInit
import HandS.ExcField
import HandS.ExcIs
import HandS.ForExc
import PyProof.GenCompD
import HandS.Gcd
import HandS.Star
import PyProof.ReprBulk
import PySem.Challenge.RW_bodybars_k21_whole_axes_and_pitches
set_option Elab.async false
set_option linter.all false
set_option maxRecDepth 100000
namespace Z
open PySem L2

/-- plain data: a tuple is its things; `ob n` is the n-th thing of the store -/
inductive D where
  | non | bl (b : Bool) | int (i : Int) | str (x : Str) | tup (xs : List D) | ob (n : Nat)
deriving Repr, Inhabited

mutual
def D.eqb : D → D → Bool
  | .non, .non => true
  | .bl a, .bl b => a == b
  | .int a, .int b => a == b
  | .str a, .str b => a == b
  | .tup a, .tup b => D.eqbL a b
  | .ob a, .ob b => a == b
  | _, _ => false
def D.eqbL : List D → List D → Bool
  | [], [] => true
  | a :: x, b :: y => D.eqb a b && D.eqbL x y
  | _, _ => false
end

inductive O where
  | lst (xs : List D) | frz (xs : List D) | dct (kvs : List (Key × D))
deriving Inhabited

abbrev Rho := List (Option D)
abbrev Store := List O

inductive R (α : Type) where
  | ok (a : α) (S : Store) | exc (c : Str) (fs : List (Str × D)) (S : Store) | bad
def R.bind {α β : Type} : R α → (α → Store → R β) → R β
  | .ok a S, k => k a S
  | .exc c fs S, _ => .exc c fs S
  | .bad, _ => .bad
@[simp] theorem R.bind_ok {α β : Type} (a : α) (S : Store) (k : α → Store → R β) : (R.ok a S).bind k = k a S := rfl
@[simp] theorem R.bind_exc {α β : Type} (c : Str) (fs : List (Str × D)) (S : Store) (k : α → Store → R β) : (R.exc c fs S).bind k = .exc c fs S := rfl
@[simp] theorem R.bind_bad {α β : Type} (k : α → Store → R β) : (R.bad : R α).bind k = .bad := rfl

abbrev EF := Rho → Store → R D
abbrev AF := Rho → Store → R (List D)
abbrev TF := Rho → Store → R Bool

mutual
/-- a value stands for plain data -/
def Rel (ι : List Addr) (H : Hp) : D → V → Prop
  | .non, v => v = .non
  | .bl b, v => v = .bl b
  | .int i, v => v = .int i
  | .str x, v => v = .str x
  | .tup xs, v => ∃ a vs, v = .ref a ∧ H a = some (.tup vs) ∧ RelL ι H xs vs
  | .ob n, v => ∃ a, ι[n]? = some a ∧ v = .ref a
def RelL (ι : List Addr) (H : Hp) : List D → List V → Prop
  | [], vs => vs = []
  | x :: xs, vs => ∃ v r, vs = v :: r ∧ Rel ι H x v ∧ RelL ι H xs r
end
def RelK (ι : List Addr) (H : Hp) {κ : Type} : List (κ × D) → List (κ × V) → Prop
  | [], vs => vs = []
  | (k, x) :: xs, vs => ∃ v r, vs = (k, v) :: r ∧ Rel ι H x v ∧ RelK ι H xs r

/-- the tables of the defs that hold generator expressions: they may grow -/
class Tabs where
  at_ : List Addr
def TabAt (H : Hp) (p : Addr) : Prop := ∃ ps : Array Value, H p = some (.tbl ps) ∧ TriplesOk ps.toList
def isTab : HO → Bool
  | .tbl _ => true
  | _ => false
/-- what the store may change -/
def mutO : HO → Bool
  | .lst _ => true
  | .dK _ => true
  | _ => false
/-- what never changes while it is tracked -/
def fixedO : HO → Bool
  | .tup _ => true
  | .frz _ _ => true
  | .xd _ => true
  | _ => false
structure Ext (ι : List Addr) (H : Hp) (ι' : List Addr) (H' : Hp) : Prop where
  pre : ∃ t, ι' = ι ++ t ∧ ∀ p ∈ t, H p = none
  keep : ∀ a o, H a = some o → (fixedO o = true ∨ a ∉ ι ∧ isTab o = false) → H' a = some o
  there : ∀ a o, H a = some o → ∃ u, H' a = some u
theorem Ext.refl (ι : List Addr) (H : Hp) : Ext ι H ι H := ⟨⟨[], by simp, by simp⟩, fun _ _ h _ => h, fun _ o h => ⟨o, h⟩⟩
theorem Ext.trans {ι ι1 ι2 : List Addr} {H H1 H2 : Hp} (a : Ext ι H ι1 H1) (b : Ext ι1 H1 ι2 H2) : Ext ι H ι2 H2 := by
  obtain ⟨⟨t, rfl, ht⟩, k, th⟩ := a
  obtain ⟨⟨u, rfl, hu⟩, l, tl⟩ := b
  refine ⟨⟨t ++ u, by simp, fun p hp => ?_⟩, fun c o h f => ?_, fun c o h => ?_⟩
  · rcases List.mem_append.mp hp with q | q
    · exact ht p q
    · cases e : H p with
      | none => rfl
      | some o =>
        obtain ⟨v, hv⟩ := th p o e
        rw [hu p q] at hv; cases hv
  · refine l c o (k c o h f) ?_
    rcases f with f | ⟨f, g⟩
    · exact .inl f
    · refine .inr ⟨fun m => ?_, g⟩
      rcases List.mem_append.mp m with q | q
      · exact f q
      · rw [ht c q] at h; cases h
  · obtain ⟨v, hv⟩ := th c o h
    exact tl c v hv
theorem Ext.at {ι ι1 : List Addr} {H H1 : Hp} (a : Ext ι H ι1 H1) {n : Nat} {p : Addr} (e : ι[n]? = some p) : ι1[n]? = some p := by
  obtain ⟨⟨t, rfl, _⟩, k, _⟩ := a
  have h := (List.getElem?_eq_some_iff.mp e).1
  rw [List.getElem?_append_left h]; exact e
/-- a new thing, outside the store -/
theorem Ext.new {ι : List Addr} {H : Hp} {p : Addr} {o : HO} (h : H p = none) : Ext ι H ι (upd H p o) :=
  ⟨⟨[], by simp, by simp⟩, fun a u e _ => by rw [upd_ne (ne_of_none e h)]; exact e, fun a u e => ⟨u, by rw [upd_ne (ne_of_none e h)]; exact e⟩⟩
/-- a new thing of the store -/
theorem Ext.newS {ι : List Addr} {H : Hp} {p : Addr} {o : HO} (h : H p = none) : Ext ι H (ι ++ [p]) (upd H p o) :=
  ⟨⟨[p], rfl, fun q hq => by rw [List.mem_singleton.mp hq]; exact h⟩, fun a u e _ => by rw [upd_ne (ne_of_none e h)]; exact e, fun a u e => ⟨u, by rw [upd_ne (ne_of_none e h)]; exact e⟩⟩
/-- a thing of the store is changed -/
theorem Ext.put {ι : List Addr} {H : Hp} {n : Nat} {p : Addr} {o o' : HO} (e : ι[n]? = some p) (h : H p = some o) (f : mutO o = true) : Ext ι H ι (upd H p o') := by
  refine ⟨⟨[], by simp, by simp⟩, fun a u q g => ?_, fun a u q => ?_⟩
  · have n : a ≠ p := by
      intro z; subst z
      rcases g with g | g
      · rw [h] at q; cases q; cases o <;> first | exact Bool.noConfusion f | exact Bool.noConfusion g
      · exact g.1 (List.mem_of_getElem? e)
    rw [upd_ne n]; exact q
  · by_cases z : a = p
    · subst z; exact ⟨o', upd_same⟩
    · exact ⟨u, by rw [upd_ne z]; exact q⟩

mutual
theorem Rel.ext {ι ι1 : List Addr} {H H1 : Hp} (a : Ext ι H ι1 H1) : ∀ {d : D} {v : V}, Rel ι H d v → Rel ι1 H1 d v
  | .non, _, r => by simp only [Rel] at r ⊢; exact r
  | .bl _, _, r => by simp only [Rel] at r ⊢; exact r
  | .int _, _, r => by simp only [Rel] at r ⊢; exact r
  | .str _, _, r => by simp only [Rel] at r ⊢; exact r
  | .tup xs, _, r => by
    simp only [Rel] at r ⊢
    obtain ⟨p, vs, e, h, l⟩ := r
    exact ⟨p, vs, e, a.keep p _ h (.inl rfl), RelL.ext a l⟩
  | .ob n, _, r => by
    simp only [Rel] at r ⊢
    obtain ⟨p, e, q⟩ := r
    exact ⟨p, a.at e, q⟩
theorem RelL.ext {ι ι1 : List Addr} {H H1 : Hp} (a : Ext ι H ι1 H1) : ∀ {xs : List D} {vs : List V}, RelL ι H xs vs → RelL ι1 H1 xs vs
  | [], _, r => by simp only [RelL] at r ⊢; exact r
  | x :: xs, _, r => by
    simp only [RelL] at r ⊢
    obtain ⟨v, t, e, h, l⟩ := r
    exact ⟨v, t, e, Rel.ext a h, RelL.ext a l⟩
end
theorem RelK.ext {κ : Type} {ι ι1 : List Addr} {H H1 : Hp} (a : Ext ι H ι1 H1) : ∀ {xs : List (κ × D)} {vs : List (κ × V)}, RelK ι H xs vs → RelK ι1 H1 xs vs
  | [], _, r => by simp only [RelK] at r ⊢; exact r
  | (k, x) :: xs, _, r => by
    simp only [RelK] at r ⊢
    obtain ⟨v, t, e, h, l⟩ := r
    exact ⟨v, t, e, h.ext a, RelK.ext a l⟩

section
variable {ι : List Addr} {H : Hp}
theorem rel_non {v : V} : Rel ι H .non v ↔ v = .non := by simp only [Rel]
theorem rel_bl {b : Bool} {v : V} : Rel ι H (.bl b) v ↔ v = .bl b := by simp only [Rel]
theorem rel_int {i : Int} {v : V} : Rel ι H (.int i) v ↔ v = .int i := by simp only [Rel]
theorem rel_str {x : Str} {v : V} : Rel ι H (.str x) v ↔ v = .str x := by simp only [Rel]
theorem rel_tup {xs : List D} {v : V} : Rel ι H (.tup xs) v ↔ ∃ a vs, v = .ref a ∧ H a = some (.tup vs) ∧ RelL ι H xs vs := by simp only [Rel]
theorem rel_ob {n : Nat} {v : V} : Rel ι H (.ob n) v ↔ ∃ a, ι[n]? = some a ∧ v = .ref a := by simp only [Rel]
theorem relL_nil {vs : List V} : RelL ι H [] vs ↔ vs = [] := by simp only [RelL]
theorem relL_cons {x : D} {xs : List D} {vs : List V} : RelL ι H (x :: xs) vs ↔ ∃ v r, vs = v :: r ∧ Rel ι H x v ∧ RelL ι H xs r := by simp only [RelL]
theorem RelL.length : ∀ {xs : List D} {vs : List V}, RelL ι H xs vs → vs.length = xs.length
  | [], _, r => by rw [relL_nil.mp r]; rfl
  | x :: xs, _, r => by
    obtain ⟨v, t, rfl, _, l⟩ := relL_cons.mp r
    simp [RelL.length l]
theorem RelL.get : ∀ {xs : List D} {vs : List V} {i : Nat} {x : D}, RelL ι H xs vs → xs[i]? = some x → ∃ v, vs[i]? = some v ∧ Rel ι H x v
  | [], _, i, x, _, e => by simp at e
  | y :: xs, _, 0, x, r, e => by
    obtain ⟨v, t, rfl, h, _⟩ := relL_cons.mp r
    simp at e; subst e
    exact ⟨v, by simp, h⟩
  | y :: xs, _, i + 1, x, r, e => by
    obtain ⟨v, t, rfl, _, l⟩ := relL_cons.mp r
    obtain ⟨w, e1, e2⟩ := RelL.get (i := i) (x := x) l (by simpa using e)
    exact ⟨w, by simpa using e1, e2⟩
theorem RelL.getV : ∀ {xs : List D} {vs : List V} {i : Nat} {v : V}, RelL ι H xs vs → vs[i]? = some v → ∃ x, xs[i]? = some x ∧ Rel ι H x v
  | [], _, i, x, r, e => by rw [relL_nil.mp r] at e; simp at e
  | y :: xs, _, 0, x, r, e => by
    obtain ⟨v, t, rfl, h, _⟩ := relL_cons.mp r
    simp at e; subst e
    exact ⟨y, by simp, h⟩
  | y :: xs, _, i + 1, x, r, e => by
    obtain ⟨v, t, rfl, _, l⟩ := relL_cons.mp r
    obtain ⟨w, e1, e2⟩ := RelL.getV (i := i) (v := x) l (by simpa using e)
    exact ⟨w, by simpa using e1, e2⟩
theorem RelL.set {x : D} {v : V} (h : Rel ι H x v) : ∀ {xs : List D} {vs : List V} (i : Nat), RelL ι H xs vs → RelL ι H (xs.set i x) (vs.set i v)
  | [], _, i, r => by rw [relL_nil.mp r]; simp [relL_nil]
  | y :: xs, _, 0, r => by
    obtain ⟨w, t, rfl, _, l⟩ := relL_cons.mp r
    exact relL_cons.mpr ⟨v, t, rfl, h, l⟩
  | y :: xs, _, i + 1, r => by
    obtain ⟨w, t, rfl, g, l⟩ := relL_cons.mp r
    exact relL_cons.mpr ⟨w, t.set i v, rfl, g, RelL.set h i l⟩
theorem RelL.append : ∀ {xs ys : List D} {vs ws : List V}, RelL ι H xs vs → RelL ι H ys ws → RelL ι H (xs ++ ys) (vs ++ ws)
  | [], ys, _, ws, r, s => by rw [relL_nil.mp r]; exact s
  | x :: xs, ys, _, ws, r, s => by
    obtain ⟨v, t, rfl, g, l⟩ := relL_cons.mp r
    exact relL_cons.mpr ⟨v, t ++ ws, rfl, g, RelL.append l s⟩
theorem RelL.take : ∀ {xs : List D} {vs : List V} (n : Nat), RelL ι H xs vs → RelL ι H (xs.take n) (vs.take n)
  | [], _, n, r => by rw [relL_nil.mp r]; simp [relL_nil]
  | x :: xs, _, 0, r => by simp [relL_nil]
  | x :: xs, _, n + 1, r => by
    obtain ⟨v, t, rfl, g, l⟩ := relL_cons.mp r
    exact relL_cons.mpr ⟨v, t.take n, rfl, g, RelL.take n l⟩
theorem RelL.drop : ∀ {xs : List D} {vs : List V} (n : Nat), RelL ι H xs vs → RelL ι H (xs.drop n) (vs.drop n)
  | [], _, n, r => by rw [relL_nil.mp r]; simp [relL_nil]
  | x :: xs, _, 0, r => r
  | x :: xs, _, n + 1, r => by
    obtain ⟨v, t, rfl, g, l⟩ := relL_cons.mp r
    exact RelL.drop n l
theorem RelL.reverse : ∀ {xs : List D} {vs : List V}, RelL ι H xs vs → RelL ι H xs.reverse vs.reverse
  | [], _, r => by rw [relL_nil.mp r]; simp [relL_nil]
  | x :: xs, _, r => by
    obtain ⟨v, t, rfl, g, l⟩ := relL_cons.mp r
    simp only [List.reverse_cons]
    exact RelL.append (RelL.reverse l) (relL_cons.mpr ⟨v, [], rfl, g, relL_nil.mpr rfl⟩)
theorem RelL.ints : ∀ {ns : List Int} {vs : List V}, RelL ι H (ns.map D.int) vs → vs = ns.map V.int
  | [], _, r => by rw [relL_nil.mp (show RelL ι H [] _ from r)]; rfl
  | n :: ns, _, r => by
    obtain ⟨v, t, rfl, g, l⟩ := relL_cons.mp (show RelL ι H (D.int n :: ns.map D.int) _ from r)
    rw [rel_int.mp g, RelL.ints l]; rfl
theorem RelL.of_ints : ∀ (ns : List Int), RelL ι H (ns.map D.int) (ns.map V.int)
  | [] => by simp [relL_nil]
  | n :: ns => relL_cons.mpr ⟨_, _, rfl, rel_int.mpr rfl, RelL.of_ints ns⟩
end

/-- a thing of the store stands at an address -/
def OR (K : PySem.W.Frag) (ι : List Addr) (H : Hp) (a : Addr) : O → Prop
  | .lst xs => ∃ vs, H a = some (.lst vs) ∧ RelL ι H xs vs
  | .frz xs => ∃ o vs, H a = some (.frz o (.lst vs)) ∧ RelL ι H xs vs
  | .dct kvs => ∃ ws, H a = some (.dK ws) ∧ RelK ι H kvs ws
variable [Tabs]
structure Link (K : PySem.W.Frag) (ι : List Addr) (S : Store) (H : Hp) : Prop where
  len : ι.length = S.length
  nd : ι.Nodup
  tab : ∀ p ∈ Tabs.at_, TabAt H p
  obj : ∀ (n : Nat) (a : Addr) (o : O), ι[n]? = some a → S[n]? = some o → OR K ι H a o
structure Slots (ι : List Addr) (H : Hp) (ρ : Rho) (σ : St) : Prop where
  len : ρ.length = σ.length
  get : ∀ (i : Nat) (d : D), ρ[i]? = some (some d) → ∃ v, σ[i]? = some (some v) ∧ Rel ι H d v
theorem Slots.ext {ι ι1 : List Addr} {H H1 : Hp} {ρ : Rho} {σ : St} (a : Ext ι H ι1 H1) (s : Slots ι H ρ σ) : Slots ι1 H1 ρ σ :=
  ⟨s.len, fun i d e => let ⟨v, h, r⟩ := s.get i d e; ⟨v, h, r.ext a⟩⟩
theorem Slots.set {ι : List Addr} {H : Hp} {ρ : Rho} {σ : St} {d : D} {v : V} (s : Slots ι H ρ σ) (i : Nat) (r : Rel ι H d v) : Slots ι H (ρ.set i (some d)) (σ.set i (some v)) :=
  ⟨by simp [s.len], fun j e h => by
    by_cases q : i = j
    · subst q
      have hl : i < ρ.length := by
        have := (List.getElem?_eq_some_iff.mp h).1
        simpa using this
      rw [List.getElem?_set_self hl] at h
      cases h
      exact ⟨v, by rw [List.getElem?_set_self (by rw [← s.len]; exact hl)], r⟩
    · rw [List.getElem?_set_ne q] at h ⊢
      exact s.get j e h⟩

theorem TabAt.new {H : Hp} {q p : Addr} {o : HO} (t : TabAt H q) (h : H p = none) : TabAt (upd H p o) q := by
  obtain ⟨ps, e, k⟩ := t
  exact ⟨ps, by rw [upd_ne (ne_of_none e h)]; exact e, k⟩
theorem TabAt.put {H : Hp} {q p : Addr} {o o' : HO} (t : TabAt H q) (h : H p = some o) (f : mutO o = true) : TabAt (upd H p o') q := by
  obtain ⟨ps, e, k⟩ := t
  refine ⟨ps, ?_, k⟩
  have n : q ≠ p := by
    intro z; subst z
    rw [e] at h; cases h; cases f
  rw [upd_ne n]; exact e
theorem OR.ext {K : PySem.W.Frag} {ι ι1 : List Addr} {H H1 : Hp} {a : Addr} {o : O} (x : Ext ι H ι1 H1) (e : H1 a = H a) (h : OR K ι H a o) : OR K ι1 H1 a o := by
  cases o with
  | lst xs => obtain ⟨vs, h1, h2⟩ := h; exact ⟨vs, by rw [e]; exact h1, h2.ext x⟩
  | frz xs => obtain ⟨o, vs, h1, h2⟩ := h; exact ⟨o, vs, by rw [e]; exact h1, h2.ext x⟩
  | dct kvs => obtain ⟨vs, h1, h2⟩ := h; exact ⟨vs, by rw [e]; exact h1, h2.ext x⟩
theorem OR.there {K : PySem.W.Frag} {ι : List Addr} {H : Hp} {a : Addr} {o : O} (h : OR K ι H a o) : ∃ u, H a = some u := by
  cases o with
  | lst xs => obtain ⟨vs, h1, h2⟩ := h; exact ⟨_, h1⟩
  | frz xs => obtain ⟨o, vs, h1, h2⟩ := h; exact ⟨_, h1⟩
  | dct kvs => obtain ⟨vs, h1, h2⟩ := h; exact ⟨_, h1⟩
theorem Link.there {K : PySem.W.Frag} {ι : List Addr} {S : Store} {H : Hp} (L : Link K ι S H) {n : Nat} {a : Addr} (e : ι[n]? = some a) : ∃ u, H a = some u := by
  have h : n < S.length := by rw [← L.len]; exact (List.getElem?_eq_some_iff.mp e).1
  exact (L.obj n a S[n] e (by simp [h])).there
/-- a new thing that isn't in the store (a tuple, what has an exception) -/
theorem Link.fixed {K : PySem.W.Frag} {ι : List Addr} {S : Store} {H : Hp} (L : Link K ι S H) {p : Addr} {o : HO} (h : H p = none) : Link K ι S (upd H p o) :=
  ⟨L.len, L.nd, fun q hq => (L.tab q hq).new h, fun n a u e1 e2 => by
    obtain ⟨w, hw⟩ := L.there e1
    exact (L.obj n a u e1 e2).ext (.new h) (upd_ne (ne_of_none hw h))⟩
/-- a new thing of the store -/
theorem Link.new {K : PySem.W.Frag} {ι : List Addr} {S : Store} {H : Hp} (L : Link K ι S H) {p : Addr} {o : HO} {u : O} (h : H p = none) (r : OR K (ι ++ [p]) (upd H p o) p u) :
    Link K (ι ++ [p]) (S ++ [u]) (upd H p o) ∧ Ext ι H (ι ++ [p]) (upd H p o) := by
  have x : Ext ι H (ι ++ [p]) (upd H p o) := .newS h
  refine ⟨⟨by simp [L.len], ?_, fun q hq => (L.tab q hq).new h, fun n a v e1 e2 => ?_⟩, x⟩
  · rw [List.nodup_append]
    refine ⟨L.nd, by simp, fun a ha b hb => ?_⟩
    have hb' : b = p := by simpa using hb
    subst hb'
    obtain ⟨i, hi, e⟩ := List.getElem_of_mem ha
    obtain ⟨w, hw⟩ := L.there (n := i) (a := a) (by rw [List.getElem?_eq_getElem hi, e])
    exact ne_of_none hw h
  · by_cases q : n < ι.length
    · rw [List.getElem?_append_left q] at e1
      rw [List.getElem?_append_left (by rw [← L.len]; exact q)] at e2
      obtain ⟨w, hw⟩ := L.there e1
      exact (L.obj n a v e1 e2).ext x (upd_ne (ne_of_none hw h))
    · have hn : n = ι.length := by
        have := (List.getElem?_eq_some_iff.mp e1).1
        simp at this; omega
      subst hn
      rw [List.getElem?_append_right (Nat.le_refl _)] at e1
      rw [L.len, List.getElem?_append_right (Nat.le_refl _)] at e2
      simp at e1 e2
      subst e1; subst e2
      exact r
/-- a thing of the store is changed -/
theorem Link.put {K : PySem.W.Frag} {ι : List Addr} {S : Store} {H : Hp} (L : Link K ι S H) {n : Nat} {p : Addr} {o o' : HO} {u : O} (e : ι[n]? = some p) (h : H p = some o) (f : mutO o = true) (r : OR K ι (upd H p o') p u) :
    Link K ι (S.set n u) (upd H p o') := by
  refine ⟨by simp [L.len], L.nd, fun q hq => (L.tab q hq).put h f, fun m a v e1 e2 => ?_⟩
  by_cases q : n = m
  · subst q
    rw [e] at e1; cases e1
    have hl : n < S.length := by rw [← L.len]; exact (List.getElem?_eq_some_iff.mp e).1
    rw [List.getElem?_set_self hl] at e2
    cases e2; exact r
  · rw [List.getElem?_set_ne q] at e2
    have na : a ≠ p := by
      intro z; subst z
      obtain ⟨h1, e1'⟩ := List.getElem?_eq_some_iff.mp e1
      obtain ⟨h2, e2'⟩ := List.getElem?_eq_some_iff.mp e
      exact q ((List.getElem_inj L.nd).mp (e2'.trans e1'.symm))
    exact (L.obj m a v e1 e2).ext (.put e h f) (upd_ne na)

/-- classes of the program by their names -/
abbrev ClsAt := Str → Addr
/-- an error of the class c with the fields fs, as HandS tells it -/
def ExcR (CA : ClsAt) (ι : List Addr) (H : Hp) (c : Str) (fs : List (Str × D)) (cls : Value) (dd : Option Addr) : Prop :=
  cls = .ref (CA c) ∧ ∃ d ws, dd = some d ∧ H d = some (.xd ws) ∧ RelK ι H fs ws
structure Wd where
  K : PySem.W.Frag
  CA : ClsAt
  W : WX

def PostE (w : Wd) (ι : List Addr) (H : Hp) (σ : St) (Q : VK) : R D → Prop
  | .ok d S' => ∀ v ι' H', Ext ι H ι' H' → Link w.K ι' S' H' → Rel ι' H' d v → Q v H'
  | .exc c fs S' => ∀ cls dd ι' H', Ext ι H ι' H' → Link w.K ι' S' H' → ExcR w.CA ι' H' c fs cls dd → w.W cls dd σ H'
  | .bad => False
def PostA (w : Wd) (ι : List Addr) (H : Hp) (σ : St) (Q : List V → Hp → Prop) : R (List D) → Prop
  | .ok d S' => ∀ v ι' H', Ext ι H ι' H' → Link w.K ι' S' H' → RelL ι' H' d v → Q v H'
  | .exc c fs S' => ∀ cls dd ι' H', Ext ι H ι' H' → Link w.K ι' S' H' → ExcR w.CA ι' H' c fs cls dd → w.W cls dd σ H'
  | .bad => False
def PostT (w : Wd) (ι : List Addr) (H : Hp) (σ : St) (Q : Bool → Hp → Prop) : R Bool → Prop
  | .ok d S' => ∀ ι' H', Ext ι H ι' H' → Link w.K ι' S' H' → Q d H'
  | .exc c fs S' => ∀ cls dd ι' H', Ext ι H ι' H' → Link w.K ι' S' H' → ExcR w.CA ι' H' c fs cls dd → w.W cls dd σ H'
  | .bad => False
def tE (w : Wd) (f : EF) : TE := fun σ H Q => ∃ ι ρ S, Link w.K ι S H ∧ Slots ι H ρ σ ∧ PostE w ι H σ Q (f ρ S)
def tA (w : Wd) (f : AF) : TA := fun σ H Q => ∃ ι ρ S, Link w.K ι S H ∧ Slots ι H ρ σ ∧ PostA w ι H σ Q (f ρ S)
def tT (w : Wd) (f : TF) : TT := fun σ H Q => ∃ ι ρ S, Link w.K ι S H ∧ Slots ι H ρ σ ∧ PostT w ι H σ Q (f ρ S)

section
variable {w : Wd} {ι ι1 : List Addr} {H H1 : Hp} {σ : St}
theorem PostE.ext {Q : VK} {r : R D} (x : Ext ι H ι1 H1) (h : PostE w ι H σ Q r) : PostE w ι1 H1 σ Q r := by
  cases r with
  | ok d S => exact fun v ι' H' y => h v ι' H' (x.trans y)
  | exc c fs S => exact fun cls dd ι' H' y => h cls dd ι' H' (x.trans y)
  | bad => exact h
theorem PostA.ext {Q : List V → Hp → Prop} {r : R (List D)} (x : Ext ι H ι1 H1) (h : PostA w ι H σ Q r) : PostA w ι1 H1 σ Q r := by
  cases r with
  | ok d S => exact fun v ι' H' y => h v ι' H' (x.trans y)
  | exc c fs S => exact fun cls dd ι' H' y => h cls dd ι' H' (x.trans y)
  | bad => exact h
theorem PostT.ext {Q : Bool → Hp → Prop} {r : R Bool} (x : Ext ι H ι1 H1) (h : PostT w ι H σ Q r) : PostT w ι1 H1 σ Q r := by
  cases r with
  | ok d S => exact fun ι' H' y => h ι' H' (x.trans y)
  | exc c fs S => exact fun cls dd ι' H' y => h cls dd ι' H' (x.trans y)
  | bad => exact h
/-- an expression and what follows it -/
theorem PostE.thenE {Q Q' : VK} {r : R D} {k : D → Store → R D} (h : PostE w ι H σ Q (r.bind k))
    (q : ∀ d S', PostE w ι H σ Q (k d S') → ∀ v ι' H', Ext ι H ι' H' → Link w.K ι' S' H' → Rel ι' H' d v → Q' v H') : PostE w ι H σ Q' r := by
  cases r with
  | ok d S => exact fun v ι' H' y L e => q d S h v ι' H' y L e
  | exc c fs S => exact h
  | bad => exact h
theorem PostE.thenT {Q : Bool → Hp → Prop} {Q' : VK} {r : R D} {k : D → Store → R Bool} (h : PostT w ι H σ Q (r.bind k))
    (q : ∀ d S', PostT w ι H σ Q (k d S') → ∀ v ι' H', Ext ι H ι' H' → Link w.K ι' S' H' → Rel ι' H' d v → Q' v H') : PostE w ι H σ Q' r := by
  cases r with
  | ok d S => exact fun v ι' H' y L e => q d S h v ι' H' y L e
  | exc c fs S => exact h
  | bad => exact h
theorem PostE.thenA {Q : List V → Hp → Prop} {Q' : VK} {r : R D} {k : D → Store → R (List D)} (h : PostA w ι H σ Q (r.bind k))
    (q : ∀ d S', PostA w ι H σ Q (k d S') → ∀ v ι' H', Ext ι H ι' H' → Link w.K ι' S' H' → Rel ι' H' d v → Q' v H') : PostE w ι H σ Q' r := by
  cases r with
  | ok d S => exact fun v ι' H' y L e => q d S h v ι' H' y L e
  | exc c fs S => exact h
  | bad => exact h
theorem PostA.thenE {Q : VK} {Q' : List V → Hp → Prop} {r : R (List D)} {k : List D → Store → R D} (h : PostE w ι H σ Q (r.bind k))
    (q : ∀ d S', PostE w ι H σ Q (k d S') → ∀ v ι' H', Ext ι H ι' H' → Link w.K ι' S' H' → RelL ι' H' d v → Q' v H') : PostA w ι H σ Q' r := by
  cases r with
  | ok d S => exact fun v ι' H' y L e => q d S h v ι' H' y L e
  | exc c fs S => exact h
  | bad => exact h
theorem PostA.thenA {Q : List V → Hp → Prop} {Q' : List V → Hp → Prop} {r : R (List D)} {k : List D → Store → R (List D)} (h : PostA w ι H σ Q (r.bind k))
    (q : ∀ d S', PostA w ι H σ Q (k d S') → ∀ v ι' H', Ext ι H ι' H' → Link w.K ι' S' H' → RelL ι' H' d v → Q' v H') : PostA w ι H σ Q' r := by
  cases r with
  | ok d S => exact fun v ι' H' y L e => q d S h v ι' H' y L e
  | exc c fs S => exact h
  | bad => exact h
theorem PostT.thenE {Q : VK} {Q' : Bool → Hp → Prop} {r : R Bool} {k : Bool → Store → R D} (h : PostE w ι H σ Q (r.bind k))
    (q : ∀ d S', PostE w ι H σ Q (k d S') → ∀ ι' H', Ext ι H ι' H' → Link w.K ι' S' H' → Q' d H') : PostT w ι H σ Q' r := by
  cases r with
  | ok d S => exact fun ι' H' y L => q d S h ι' H' y L
  | exc c fs S => exact h
  | bad => exact h
theorem PostT.thenT {Q : Bool → Hp → Prop} {Q' : Bool → Hp → Prop} {r : R Bool} {k : Bool → Store → R Bool} (h : PostT w ι H σ Q (r.bind k))
    (q : ∀ d S', PostT w ι H σ Q (k d S') → ∀ ι' H', Ext ι H ι' H' → Link w.K ι' S' H' → Q' d H') : PostT w ι H σ Q' r := by
  cases r with
  | ok d S => exact fun ι' H' y L => q d S h ι' H' y L
  | exc c fs S => exact h
  | bad => exact h
end

section
variable {X : Cx}
theorem PE_imp {e : Expr} {t t' : TE} (h : PE X e t) (i : ∀ σ H Q, t' σ H Q → t σ H Q) : PE X e t' := ⟨fun pins s σ H Q I q => h.run pins s σ H Q I (i σ H Q q)⟩
theorem PT_imp {e : Expr} {t t' : TT} (h : PT X e t) (i : ∀ σ H Q, t' σ H Q → t σ H Q) : PT X e t' := ⟨fun pins s σ H Q I q => h.run pins s σ H Q I (i σ H Q q)⟩
theorem PA_imp {e : List Expr} {t t' : TA} (h : PA X e t) (i : ∀ σ H Q, t' σ H Q → t σ H Q) : PA X e t' := ⟨fun pos pins s σ H Q I q => h.run pos pins s σ H Q I (i σ H Q q)⟩
theorem PS_imp {e : Stmt} {t t' : TS} (h : PS X e t) (i : ∀ D σ H, t' D σ H → t D σ H) : PS X e t' := ⟨fun pins s σ H D I q => h.run pins s σ H D I (i D σ H q)⟩
theorem PSs_imp {e : List Stmt} {t t' : TS} (h : PSs X e t) (i : ∀ D σ H, t' D σ H → t D σ H) : PSs X e t' := ⟨fun pins s σ H D I q => h.run pins s σ H D I (i D σ H q)⟩
end
end Z

set_option Elab.async false
set_option linter.all false
set_option maxRecDepth 100000
set_option maxHeartbeats 1000000
namespace Z
variable [Tabs]
open PySem L2 PySem.Spec PyProof.Rows

section
variable {X : Cx} {w : Wd} {pos : Pos} {a b c : Expr} {fa fb fc : EF}

def eVar (i : Nat) : EF := fun ρ S => match ρ[i]? with
  | some (some d) => .ok d S
  | _ => .bad
theorem se_var (i : Nat) {x : Str} (h : PE X (.Name x pos) (tVar i)) : PE X (.Name x pos) (tE w (eVar i)) := by
  refine PE_imp h fun σ H Q ⟨ι, ρ, S, L, Sl, p⟩ => ?_
  unfold eVar at p
  cases e : ρ[i]? with
  | none => rw [e] at p; exact p.elim
  | some o =>
    cases o with
    | none => rw [e] at p; exact p.elim
    | some d =>
      rw [e] at p
      obtain ⟨v, h1, r⟩ := Sl.get i d e
      exact ⟨v, h1, p v ι H (.refl ι H) L r⟩
def eC (d : D) : EF := fun _ S => .ok d S
theorem se_c {v : V} {d : D} {e : Expr} (h : PE X e (tC v)) (r : ∀ ι H, Rel ι H d v) : PE X e (tE w (eC d)) :=
  PE_imp h fun σ H Q ⟨ι, ρ, S, L, Sl, p⟩ => p v ι H (.refl ι H) L (r ι H)
theorem se_int {i j} : PE X (.Constant (.int i) j pos) (tE w (eC (.int i))) := se_c pe_int fun _ _ => rel_int.mpr rfl
theorem se_bl {i j} : PE X (.Constant (.bool i) j pos) (tE w (eC (.bl i))) := se_c pe_bl fun _ _ => rel_bl.mpr rfl
theorem se_non {j} : PE X (.Constant .none j pos) (tE w (eC .non)) := se_c pe_non fun _ _ => rel_non.mpr rfl
theorem se_str {i j} : PE X (.Constant (.str i) j pos) (tE w (eC (.str i))) := se_c pe_str fun _ _ => rel_str.mpr rfl
/-- a module's constant that is a number, a text, a truth, None -/
theorem se_glob {x : Str} {v : V} {d : D} (h : PE X (.Name x pos) (tC v)) (r : ∀ ι H, Rel ι H d v) : PE X (.Name x pos) (tE w (eC d)) := se_c h r

def aNil : AF := fun _ S => .ok [] S
def aCons (f : EF) (g : AF) : AF := fun ρ S => (f ρ S).bind fun x S1 => (g ρ S1).bind fun xs S2 => .ok (x :: xs) S2
theorem sa_nil : PA X [] (tA w aNil) := PA_imp pa_nil fun σ H Q ⟨ι, ρ, S, L, Sl, p⟩ => p [] ι H (.refl ι H) L (relL_nil.mpr rfl)
theorem sa_cons {e : Expr} {es : List Expr} {f : EF} {g : AF} (ha : PE X e (tE w f)) (hr : PA X es (tA w g)) (hs : starEach (e :: es) X.env = (false, eval e X.env) :: starEach es X.env := by rfl) : PA X (e :: es) (tA w (aCons f g)) := by
  refine PA_imp (pa_cons ha hr hs) fun σ H Q ⟨ι, ρ, S, L, Sl, p⟩ => ?_
  refine ⟨ι, ρ, S, L, Sl, PostE.thenA p fun d S1 p1 v ι1 H1 x1 L1 r1 => ?_⟩
  refine ⟨ι1, ρ, S1, L1, Sl.ext x1, PostA.thenA (p1.ext x1) fun ds S2 p2 vs ι2 H2 x2 L2 r2 => ?_⟩
  exact p2 (v :: vs) ι2 H2 x2 L2 (relL_cons.mpr ⟨v, vs, rfl, r1.ext x2, r2⟩)

def RuleOp (w : Wd) (r : R2) (g : D → D → Store → R D) : Prop := ∀ (ι : List Addr) (S : Store) (H : Hp) (σ : L2.St) (x y : D) (v u : V) (Q : VK), Link w.K ι S H → Rel ι H x v → Rel ι H y u → PostE w ι H σ Q (g x y S) → r v u H Q
def eOp (g : D → D → Store → R D) (fa fb : EF) : EF := fun ρ S => (fa ρ S).bind fun x S1 => (fb ρ S1).bind fun y S2 => g x y S2
theorem op_use {r : R2} {g : D → D → Store → R D} (hg : RuleOp w r g) {σ : L2.St} {H : Hp} {Q : VK} (h : tE w (eOp g fa fb) σ H Q) : tOp r (tE w fa) (tE w fb) σ H Q := by
  obtain ⟨ι, ρ, S, L, Sl, p⟩ := h
  refine ⟨ι, ρ, S, L, Sl, PostE.thenE p fun d S1 p1 v ι1 H1 x1 L1 r1 => ?_⟩
  refine ⟨ι1, ρ, S1, L1, Sl.ext x1, PostE.thenE (p1.ext x1) fun e S2 p2 u ι2 H2 x2 L2 r2 => ?_⟩
  exact hg ι2 S2 H2 σ d e v u Q L2 (r1.ext x2) r2 (p2.ext x2)
theorem se_op {op : Operator} {r : R2} {g : D → D → Store → R D} (ho : OpR X (binaryOp op) r) (hg : RuleOp w r g) (ha : PE X a (tE w fa)) (hb : PE X b (tE w fb)) : PE X (.BinOp a op b pos) (tE w (eOp g fa fb)) :=
  PE_imp (pe_op ho ha hb) fun σ H Q h => op_use hg h

abbrev LIM : Nat := 16777216
theorem lim_eq : sizeLine = LIM := sizeLine_eq
def newL (S : Store) (xs : List D) : R D := .ok (.ob S.length) (S ++ [.lst xs])
theorem post_newL {ι : List Addr} {S : Store} {H : Hp} {σ : L2.St} {Q : VK} {xs : List D} {vs : List V} (L : Link w.K ι S H) (r : RelL ι H xs vs) (p : PostE w ι H σ Q (newL S xs)) : ∀ q, H q = none → Q (.ref q) (upd H q (.lst vs)) := fun q hq => by
  have x0 : Ext ι H (ι ++ [q]) (upd H q (.lst vs)) := .newS hq
  obtain ⟨L1, x1⟩ := L.new (u := .lst xs) hq ⟨vs, upd_same, r.ext x0⟩
  refine p (.ref q) _ _ x1 L1 (rel_ob.mpr ⟨q, ?_, rfl⟩)
  rw [← L.len, List.getElem?_append_right (Nat.le_refl _)]; simp
theorem post_tup {ι : List Addr} {S : Store} {H : Hp} {σ : L2.St} {Q : VK} {xs : List D} {vs : List V} (L : Link w.K ι S H) (r : RelL ι H xs vs) (p : PostE w ι H σ Q (.ok (.tup xs) S)) : ∀ q, H q = none → Q (.ref q) (upd H q (.tup vs)) := fun q hq => by
  have x0 : Ext ι H ι (upd H q (.tup vs)) := .new hq
  exact p (.ref q) _ _ x0 (L.fixed hq) (rel_tup.mpr ⟨q, vs, rfl, upd_same, r.ext x0⟩)
theorem Link.lst {K : PySem.W.Frag} {ι : List Addr} {S : Store} {H : Hp} (L : Link K ι S H) {n : Nat} {xs : List D} {v : V} (e : S[n]? = some (.lst xs)) (r : Rel ι H (.ob n) v) : ∃ q vs, v = .ref q ∧ ι[n]? = some q ∧ H q = some (.lst vs) ∧ RelL ι H xs vs := by
  obtain ⟨q, h, rfl⟩ := rel_ob.mp r
  obtain ⟨vs, h1, h2⟩ := L.obj n q _ h e
  exact ⟨q, vs, rfl, h, h1, h2⟩
theorem Link.frz {K : PySem.W.Frag} {ι : List Addr} {S : Store} {H : Hp} (L : Link K ι S H) {n : Nat} {xs : List D} {v : V} (e : S[n]? = some (.frz xs)) (r : Rel ι H (.ob n) v) : ∃ q o vs, v = .ref q ∧ ι[n]? = some q ∧ H q = some (.frz o (.lst vs)) ∧ RelL ι H xs vs := by
  obtain ⟨q, h, rfl⟩ := rel_ob.mp r
  obtain ⟨o, vs, h1, h2⟩ := L.obj n q _ h e
  exact ⟨q, o, vs, rfl, h, h1, h2⟩
theorem Link.dct {K : PySem.W.Frag} {ι : List Addr} {S : Store} {H : Hp} (L : Link K ι S H) {n : Nat} {xs : List (Key × D)} {v : V} (e : S[n]? = some (.dct xs)) (r : Rel ι H (.ob n) v) : ∃ q vs, v = .ref q ∧ ι[n]? = some q ∧ H q = some (.dK vs) ∧ RelK ι H xs vs := by
  obtain ⟨q, h, rfl⟩ := rel_ob.mp r
  obtain ⟨vs, h1, h2⟩ := L.obj n q _ h e
  exact ⟨q, vs, rfl, h, h1, h2⟩
/-- a list or the script, to be read -/
def asL (S : Store) : D → Option (List D)
  | .ob n => match S[n]? with
    | some (.lst xs) => some xs
    | some (.frz xs) => some xs
    | _ => none
  | _ => none
theorem Link.seqL {K : PySem.W.Frag} {ι : List Addr} {S : Store} {H : Hp} (L : Link K ι S H) {d : D} {xs : List D} {v : V} (e : asL S d = some xs) (r : Rel ι H d v) : ∃ q vs, v = .ref q ∧ SqL K H q vs ∧ RelL ι H xs vs := by
  cases d with
  | ob n =>
    cases q : S[n]? with
    | none => simp only [asL, q] at e; cases e
    | some o =>
      cases o with
      | lst ys =>
        simp only [asL, q] at e; cases e
        obtain ⟨p, vs, rfl, _, h, l⟩ := L.lst q r
        exact ⟨p, vs, rfl, SqL.of h, l⟩
      | frz ys =>
        simp only [asL, q] at e; cases e
        obtain ⟨p, o, vs, rfl, _, h, l⟩ := L.frz q r
        exact ⟨p, vs, rfl, .inl (.inr ⟨o, h⟩), l⟩
      | dct ys => simp only [asL, q] at e; cases e
  | non => simp only [asL] at e; cases e
  | bl _ => simp only [asL] at e; cases e
  | int _ => simp only [asL] at e; cases e
  | str _ => simp only [asL] at e; cases e
  | tup _ => simp only [asL] at e; cases e
def asQ (S : Store) : D → Option (List D)
  | .tup xs => some xs
  | d => asL S d
theorem Link.seq {K : PySem.W.Frag} {ι : List Addr} {S : Store} {H : Hp} (L : Link K ι S H) {d : D} {xs : List D} {v : V} (e : asQ S d = some xs) (r : Rel ι H d v) : ∃ q vs, v = .ref q ∧ (SqL K H q vs ∨ SqT K H q vs) ∧ RelL ι H xs vs := by
  cases d with
  | tup ys =>
    cases e
    obtain ⟨q, vs, rfl, h, l⟩ := rel_tup.mp r
    exact ⟨q, vs, rfl, .inr (SqT.of h), l⟩
  | ob n =>
    obtain ⟨q, vs, h1, h2, h3⟩ := L.seqL (d := .ob n) e r
    exact ⟨q, vs, h1, .inl h2, h3⟩
  | non => simp only [asQ, asL] at e; cases e
  | bl _ => simp only [asQ, asL] at e; cases e
  | int _ => simp only [asQ, asL] at e; cases e
  | str _ => simp only [asQ, asL] at e; cases e

def gAdd : D → D → Store → R D
  | .int i, .int j, S => .ok (.int (i + j)) S
  | .str x, .str y, S => if x.length + y.length ≤ LIM then .ok (.str (x ++ y)) S else .bad
  | .tup xs, .tup ys, S => if xs.length + ys.length ≤ LIM then .ok (.tup (xs ++ ys)) S else .bad
  | .ob m, .ob n, S => match S[m]?, S[n]? with
    | some (.lst xs), some (.lst ys) => if xs.length + ys.length ≤ LIM then newL S (xs ++ ys) else .bad
    | _, _ => .bad
  | _, _, _ => .bad
theorem rule_add (K : PySem.W.Frag) (hK : K = w.K) : RuleOp w (fun x y H Q => rI0 (fun i j => .int (i + j)) x y H Q ∨ (∃ i j, x = .str i ∧ y = .str j ∧ i.length + j.length ≤ sizeLine ∧ Q (.str (i ++ j)) H) ∨ rCatA K x y H Q ∨ rCat x y H Q) gAdd := by
  subst hK
  intro ι S H σ x y v u Q L rx ry p
  cases x <;> cases y <;> try exact p.elim
  · rename_i i j
    rw [rel_int] at rx ry; subst rx; subst ry
    exact .inl ⟨i, j, rfl, rfl, p _ ι H (.refl ι H) L (rel_int.mpr rfl)⟩
  · rename_i i j
    rw [rel_str] at rx ry; subst rx; subst ry
    simp only [gAdd] at p
    split at p
    · rename_i hz
      exact .inr (.inl ⟨i, j, rfl, rfl, by rw [lim_eq]; exact hz, p _ ι H (.refl ι H) L (rel_str.mpr rfl)⟩)
    · exact p.elim
  · rename_i xs ys
    have rx' := rx
    have ry' := ry
    obtain ⟨q1, vs, rfl, h1, l1⟩ := rel_tup.mp rx
    obtain ⟨q2, us, rfl, h2, l2⟩ := rel_tup.mp ry
    simp only [gAdd] at p
    split at p
    · rename_i hz
      refine .inr (.inr (.inl ⟨q1, q2, vs, us, rfl, rfl, SqT.of h1, SqT.of h2, by rw [lim_eq, l1.length, l2.length]; exact hz, fun e => ?_, fun _ e => ?_, fun _ _ q hq => ?_⟩))
      · subst e
        have : xs = [] := List.eq_nil_of_length_eq_zero l1.length.symm
        subst this
        exact p _ ι H (.refl ι H) L ry'
      · subst e
        have : ys = [] := List.eq_nil_of_length_eq_zero l2.length.symm
        subst this
        rw [List.append_nil] at p
        exact p _ ι H (.refl ι H) L rx'
      · exact post_tup L (l1.append l2) p q hq
    · exact p.elim
  · rename_i m n
    simp only [gAdd] at p
    cases e1 : S[m]? with
    | none => rw [e1] at p; exact p.elim
    | some o1 =>
      cases e2 : S[n]? with
      | none => rw [e1, e2] at p; cases o1 <;> exact p.elim
      | some o2 =>
        rw [e1, e2] at p
        cases o1 <;> cases o2 <;> try exact p.elim
        rename_i xs ys
        obtain ⟨q1, vs, rfl, _, h1, l1⟩ := L.lst e1 rx
        obtain ⟨q2, us, rfl, _, h2, l2⟩ := L.lst e2 ry
        dsimp only at p
        split at p
        · rename_i hz
          exact .inr (.inr (.inr ⟨q1, q2, vs, us, rfl, rfl, h1, h2, by rw [lim_eq, l1.length, l2.length]; exact hz, post_newL L (l1.append l2) p⟩))
        · exact p.elim
theorem se_add (ha : PE X a (tE w fa)) (hb : PE X b (tE w fb)) (hK : X.K = w.K := by rfl) : PE X (.BinOp a .Add b pos) (tE w (eOp gAdd fa fb)) :=
  se_op (op_add.or (op_add_str.or (op_catA.or op_cat))) (rule_add X.K hK) ha hb

def gInt (f : Int → Int → Option Int) : D → D → Store → R D
  | .int i, .int j, S => match f i j with
    | some k => .ok (.int k) S
    | none => .bad
  | _, _, _ => .bad
theorem rule_int {C : Int → Int → Prop} {g : Int → Int → Int} {f : Int → Int → Option Int} (h : ∀ i j k, f i j = some k → C i j ∧ k = g i j) : RuleOp w (rI C fun i j => .int (g i j)) (gInt f) := by
  intro ι S H σ x y v u Q L rx ry p
  cases x <;> cases y <;> try exact p.elim
  rename_i i j
  rw [rel_int] at rx ry; subst rx; subst ry
  simp only [gInt] at p
  cases e : f i j with
  | none => rw [e] at p; exact p.elim
  | some k =>
    rw [e] at p
    obtain ⟨hc, rfl⟩ := h i j k e
    exact ⟨i, j, rfl, rfl, hc, p _ ι H (.refl ι H) L (rel_int.mpr rfl)⟩
def gSub : D → D → Store → R D := gInt fun i j => some (i - j)
theorem se_sub (ha : PE X a (tE w fa)) (hb : PE X b (tE w fb)) : PE X (.BinOp a .Sub b pos) (tE w (eOp gSub fa fb)) := by
  refine se_op (r := rI (fun _ _ => True) fun i j => .int (i - j)) (opI fun _ _ _ _ _ _ _ _ q => sub_int q) (rule_int fun i j k e => ⟨trivial, (Option.some.inj e).symm⟩) ha hb
/-- products: together less than a million bits; a list or a tuple so many times -/
def gMul : D → D → Store → R D
  | .int i, .int j, S => if i.natAbs.log2 + j.natAbs.log2 < 1000000 then .ok (.int (i * j)) S else .bad
  | .tup xs, .int k, S => if xs ≠ [] ∧ 2 ≤ k ∧ k ≤ 1000 ∧ xs.length ≤ 1000 then .ok (.tup (List.replicate k.toNat xs).flatten) S else .bad
  | .ob m, .int k, S => match S[m]? with
    | some (.lst xs) => if -(2 ^ 63) ≤ k ∧ k < 2 ^ 63 ∧ xs.length * k.toNat ≤ LIM then newL S (List.replicate k.toNat xs).flatten else .bad
    | _ => .bad
  | _, _, _ => .bad
theorem RelL.rep {ι : List Addr} {H : Hp} {xs : List D} {vs : List V} (r : RelL ι H xs vs) : ∀ n : Nat, RelL ι H (List.replicate n xs).flatten (List.replicate n vs).flatten
  | 0 => by simp [relL_nil]
  | n + 1 => by
    simp only [List.replicate_succ, List.flatten_cons]
    exact r.append (RelL.rep r n)
theorem rule_mul (K : PySem.W.Frag) (hK : K = w.K) : RuleOp w (fun x y H Q => rI CMulW (fun i j => .int (i * j)) x y H Q ∨ rRepT K x y H Q ∨ rRep x y H Q) gMul := by
  subst hK
  intro ι S H σ x y v u Q L rx ry p
  cases x <;> cases y <;> try exact p.elim
  · rename_i i j
    rw [rel_int] at rx ry; subst rx; subst ry
    simp only [gMul] at p
    split at p
    · rename_i hz
      exact .inl ⟨i, j, rfl, rfl, hz, p _ ι H (.refl ι H) L (rel_int.mpr rfl)⟩
    · exact p.elim
  · rename_i xs k
    obtain ⟨q1, vs, rfl, h1, l1⟩ := rel_tup.mp rx
    rw [rel_int] at ry; subst ry
    simp only [gMul] at p
    split at p
    · rename_i hz
      obtain ⟨z1, z2, z3, z4⟩ := hz
      refine .inr (.inl ⟨q1, k, vs, rfl, rfl, SqT.of h1, fun e => ?_, z2, z3, by rw [l1.length]; exact z4, post_tup L (l1.rep _) p⟩)
      subst e
      exact z1 (List.eq_nil_of_length_eq_zero l1.length.symm)
    · exact p.elim
  · rename_i m k
    rw [rel_int] at ry; subst ry
    simp only [gMul] at p
    cases e1 : S[m]? with
    | none => rw [e1] at p; exact p.elim
    | some o1 =>
      rw [e1] at p
      cases o1 <;> try exact p.elim
      rename_i xs
      obtain ⟨q1, vs, rfl, _, h1, l1⟩ := L.lst e1 rx
      dsimp only at p
      split at p
      · rename_i hz
        obtain ⟨z1, z2, z3⟩ := hz
        exact .inr (.inr ⟨q1, k, vs, rfl, rfl, h1, z1, z2, by rw [lim_eq, l1.length]; exact z3, post_newL L (l1.rep _) p⟩)
      · exact p.elim
theorem se_mul (ha : PE X a (tE w fa)) (hb : PE X b (tE w fb)) (hK : X.K = w.K := by rfl) : PE X (.BinOp a .Mult b pos) (tE w (eOp gMul fa fb)) :=
  se_op (op_mulW.or (op_repT.or op_rep)) (rule_mul X.K hK) ha hb
/-- // and %: by positive divisors -/
def gDiv : D → D → Store → R D := gInt fun i j => if 0 < j ∧ j.natAbs.log2 < 9000 then some (i / j) else none
theorem se_div (ha : PE X a (tE w fa)) (hb : PE X b (tE w fb)) : PE X (.BinOp a .FloorDiv b pos) (tE w (eOp gDiv fa fb)) :=
  se_op op_fdivW (rule_int fun i j k e => by
    split at e
    · rename_i h; exact ⟨h, (Option.some.inj e).symm⟩
    · cases e) ha hb
def gMod : D → D → Store → R D := gInt fun i j => if 0 < j then some (i % j) else none
theorem se_mod (ha : PE X a (tE w fa)) (hb : PE X b (tE w fb)) : PE X (.BinOp a .Mod b pos) (tE w (eOp gMod fa fb)) :=
  se_op op_mod (rule_int fun i j k e => by
    split at e
    · rename_i h; exact ⟨h, (Option.some.inj e).symm⟩
    · cases e) ha hb
/-- **: small bases, and great ones with small exponents -/
def CPow' (i j : Int) : Prop := 0 ≤ j ∧ (j ≤ 1000000 ∧ i.natAbs < 2 ^ 64 ∨ j ≤ 100 ∧ i.natAbs.log2 < 1000000)
theorem op_pow' {X : Cx} : OpR X (binaryOp .Pow) (rI CPow' fun i j => .int (i ^ j.toNat)) := opI fun i j _ _ _ _ _ hc q => by
  obtain ⟨h0, ⟨h1, h2⟩ | ⟨h1, h2⟩⟩ := hc
  · exact PyProof.Rows.pow_int_small h0 h1 h2 q
  · refine PyProof.Rows.pow_int h0 ?_ q
    have hb : Builtin.Int.intBits i ≤ 1000000 := by
      unfold Builtin.Int.intBits
      split <;> omega
    have h3 : (Builtin.Int.intBits i : Int) * j ≤ 1000000 * j := Int.mul_le_mul_of_nonneg_right (by omega) h0
    omega
def gPow : D → D → Store → R D := gInt fun i j => if 0 ≤ j ∧ j ≤ 1000000 ∧ i.natAbs < 2 ^ 64 then some (i ^ j.toNat) else if 0 ≤ j ∧ j ≤ 100 ∧ i.natAbs.log2 < 1000000 then some (i ^ j.toNat) else none
theorem se_pow (ha : PE X a (tE w fa)) (hb : PE X b (tE w fb)) : PE X (.BinOp a .Pow b pos) (tE w (eOp gPow fa fb)) :=
  se_op op_pow' (rule_int fun i j k e => by
    split at e
    · rename_i h; exact ⟨⟨h.1, .inl h.2⟩, (Option.some.inj e).symm⟩
    · split at e
      · rename_i h; exact ⟨⟨h.1, .inr h.2⟩, (Option.some.inj e).symm⟩
      · cases e) ha hb
def eNeg (fa : EF) : EF := fun ρ S => (fa ρ S).bind fun x S1 => match x with
  | .int i => .ok (.int (-i)) S1
  | _ => .bad
theorem se_neg (ha : PE X a (tE w fa)) : PE X (.UnaryOp .USub a pos) (tE w (eNeg fa)) := by
  refine PE_imp (pe_un un_neg ha) fun σ H Q ⟨ι, ρ, S, L, Sl, p⟩ => ?_
  refine ⟨ι, ρ, S, L, Sl, PostE.thenE p fun d S1 p1 v ι1 H1 x1 L1 r1 => ?_⟩
  cases d <;> try exact p1.elim
  rw [rel_int] at r1; subst r1
  exact ⟨_, rfl, p1 _ ι1 H1 x1 L1 (rel_int.mpr rfl)⟩

def gCmp (f : Int → Int → Bool) : D → D → Store → R D
  | .int i, .int j, S => .ok (.bl (f i j)) S
  | _, _, _ => .bad
theorem rule_cmp {f : Int → Int → Bool} : RuleOp w (rI0 fun i j => .bl (f i j)) (gCmp f) := by
  intro ι S H σ x y v u Q L rx ry p
  cases x <;> cases y <;> try exact p.elim
  rename_i i j
  rw [rel_int] at rx ry; subst rx; subst ry
  exact ⟨i, j, rfl, rfl, p _ ι H (.refl ι H) L (rel_bl.mpr rfl)⟩
abbrev gLt := gCmp fun i j => decide (i < j)
abbrev gLe := gCmp fun i j => decide (i ≤ j)
abbrev gGt := gCmp fun i j => decide (j < i)
abbrev gGe := gCmp fun i j => decide (j ≤ i)
/-- a comparison's rule: operator, what it asks, what it gives -/
structure CmpRule (X : Cx) (w : Wd) (op : CmpOp) (g : D → D → Store → R D) : Prop where
  rule : ∃ r, OpR X (compareOp op) r ∧ RuleOp w r g
  bool : ∀ x y S d S', g x y S = .ok d S' → ∃ k, d = .bl k
theorem cr_lt : CmpRule X w .Lt gLt := ⟨⟨_, op_lt, rule_cmp⟩, fun x y S d S' e => by cases x <;> cases y <;> cases e; exact ⟨_, rfl⟩⟩
theorem cr_le : CmpRule X w .LtE gLe := ⟨⟨_, op_le, rule_cmp⟩, fun x y S d S' e => by cases x <;> cases y <;> cases e; exact ⟨_, rfl⟩⟩
theorem cr_gt : CmpRule X w .Gt gGt := ⟨⟨_, op_gt, rule_cmp⟩, fun x y S d S' e => by cases x <;> cases y <;> cases e; exact ⟨_, rfl⟩⟩
theorem cr_ge : CmpRule X w .GtE gGe := ⟨⟨_, op_ge, rule_cmp⟩, fun x y S d S' e => by cases x <;> cases y <;> cases e; exact ⟨_, rfl⟩⟩
theorem se_cmp {op : CmpOp} {g : D → D → Store → R D} (h : CmpRule X w op g) (ha : PE X a (tE w fa)) (hb : PE X b (tE w fb)) (hm : behindInMarks op b = false) : PE X (.Compare a [op] [b] pos) (tE w (eOp g fa fb)) := by
  obtain ⟨⟨r, ho, hg⟩, _⟩ := h
  exact PE_imp (pe_cmpR ho ha hb hm) fun σ H Q q => op_use hg q
/-- an expression that gives a truth, as a test -/
def tOf (f : EF) : TF := fun ρ S => (f ρ S).bind fun d S1 => match d with
  | .bl k => .ok k S1
  | _ => .bad
theorem tOf_use {f : EF} {σ : L2.St} {H : Hp} {Q : Bool → Hp → Prop} (h : tT w (tOf f) σ H Q) : tE w f σ H fun x H1 => ∃ k, x = .bl k ∧ Q k H1 := by
  obtain ⟨ι, ρ, S, L, Sl, p⟩ := h
  refine ⟨ι, ρ, S, L, Sl, PostE.thenT p fun d S1 p1 v ι1 H1 x1 L1 r1 => ?_⟩
  cases d <;> try exact p1.elim
  rw [rel_bl] at r1; subst r1
  exact ⟨_, rfl, p1 ι1 H1 x1 L1⟩
theorem st_cmp {op : CmpOp} {g : D → D → Store → R D} (h : CmpRule X w op g) (ha : PE X a (tE w fa)) (hb : PE X b (tE w fb)) (hm : behindInMarks op b = false) : PT X (.Compare a [op] [b] pos) (tT w (tOf (eOp g fa fb))) := by
  obtain ⟨⟨r, ho, hg⟩, _⟩ := h
  exact PT_imp (pt_cmpR ho ha hb hm) fun σ H Q q => op_use hg (tOf_use q)
theorem st_val {e : Expr} {f : EF} (h : PE X e (tE w f)) (he : ∀ whole, isTrue e X.env whole = (do let v ← whole; standAt e.pos; holding [v] (truthy v)) := by intro _; rfl) : PT X e (tT w (tOf f)) :=
  PT_imp (pt_val h he) fun σ H Q q => tOf_use q
/-- a op b op' c -/
def eChain (g g' : D → D → Store → R D) (fa fb fc : EF) : EF := fun ρ S => (fa ρ S).bind fun x S1 => (fb ρ S1).bind fun y S2 => (g x y S2).bind fun z S3 => match z with
  | .bl true => (fc ρ S3).bind fun u S4 => g' y u S4
  | .bl false => .ok (.bl false) S3
  | _ => .bad
theorem chain_use {r r' : R2} {g g' : D → D → Store → R D} (hg : RuleOp w r g) (hg' : RuleOp w r' g') {σ : L2.St} {H : Hp} {Q : VK} (h : tE w (eChain g g' fa fb fc) σ H Q) : tChain r r' (tE w fa) (tE w fb) (tE w fc) σ H Q := by
  obtain ⟨ι, ρ, S, L, Sl, p⟩ := h
  refine ⟨ι, ρ, S, L, Sl, PostE.thenE p fun d S1 p1 v ι1 H1 x1 L1 r1 => ?_⟩
  refine ⟨ι1, ρ, S1, L1, Sl.ext x1, PostE.thenE (p1.ext x1) fun e S2 p2 u ι2 H2 x2 L2 r2 => ?_⟩
  refine hg ι2 S2 H2 σ d e v u _ L2 (r1.ext x2) r2 (PostE.thenE (p2.ext x2) fun z S3 p3 t ι3 H3 x3 L3 r3 => ?_)
  cases z <;> try exact p3.elim
  rename_i k
  rw [rel_bl] at r3; subst r3
  refine ⟨k, rfl, ?_⟩
  cases k with
  | false =>
    rw [if_neg Bool.false_ne_true]
    exact p3 _ ι3 H3 x3 L3 (rel_bl.mpr rfl)
  | true =>
    rw [if_pos rfl]
    refine ⟨ι3, ρ, S3, L3, ((Sl.ext x1).ext x2).ext x3, PostE.thenE (p3.ext x3) fun f S4 p4 q ι4 H4 x4 L4 r4 => ?_⟩
    exact hg' ι4 S4 H4 σ e f u q Q L4 ((r2.ext x3).ext x4) r4 (p4.ext x4)
theorem se_chain {op op' : CmpOp} {g g' : D → D → Store → R D} (h : CmpRule X w op g) (h' : CmpRule X w op' g') (ha : PE X a (tE w fa)) (hb : PE X b (tE w fb)) (hc : PE X c (tE w fc))
    (hm : lastMarks [op, op'] [b, c] = false := by with_unfolding_all rfl) : PE X (.Compare a [op, op'] [b, c] pos) (tE w (eChain g g' fa fb fc)) := by
  obtain ⟨⟨r, ho, hg⟩, _⟩ := h
  obtain ⟨⟨r', ho', hg'⟩, _⟩ := h'
  exact PE_imp (pe_chain ho ho' ha hb hc hm) fun σ H Q q => chain_use hg hg' q
theorem st_chain {op op' : CmpOp} {g g' : D → D → Store → R D} (h : CmpRule X w op g) (h' : CmpRule X w op' g') (ha : PE X a (tE w fa)) (hb : PE X b (tE w fb)) (hc : PE X c (tE w fc))
    (hm : lastMarks [op, op'] [b, c] = false := by with_unfolding_all rfl) : PT X (.Compare a [op, op'] [b, c] pos) (tT w (tOf (eChain g g' fa fb fc))) := by
  obtain ⟨⟨r, ho, hg⟩, _⟩ := h
  obtain ⟨⟨r', ho', hg'⟩, _⟩ := h'
  exact PT_imp (pt_chain ho ho' ha hb hc hm) fun σ H Q q => chain_use hg hg' (tOf_use q)
/-- is None, is not None -/
def isNonD : D → Bool
  | .non => true
  | _ => false
def gIsN (neg : Bool) : D → D → Store → R D
  | x, .non, S => .ok (.bl (if neg then !isNonD x else isNonD x)) S
  | _, _, _ => .bad
theorem non_iff {ι : List Addr} {H : Hp} {x : D} {v : V} (r : Rel ι H x v) : isNonD x = decide (v = .non) := by
  cases x with
  | non => have e := rel_non.mp r; subst e; rfl
  | bl => have e := rel_bl.mp r; subst e; rfl
  | int => have e := rel_int.mp r; subst e; rfl
  | str => have e := rel_str.mp r; subst e; rfl
  | tup => obtain ⟨q, vs, rfl, _⟩ := rel_tup.mp r; rfl
  | ob => obtain ⟨q, _, rfl⟩ := rel_ob.mp r; rfl
theorem cr_isN : CmpRule X w .Is (gIsN false) := ⟨⟨_, op_isN, fun ι S H σ x y v u Q L rx ry p => by
  cases y <;> try (cases x <;> exact p.elim)
  refine ⟨rel_non.mp ry, ?_⟩
  rw [← non_iff rx]
  exact p _ ι H (.refl ι H) L (rel_bl.mpr rfl)⟩, fun x y S d S' e => by cases y <;> cases e; exact ⟨_, rfl⟩⟩
theorem cr_notN : CmpRule X w .IsNot (gIsN true) := ⟨⟨_, op_notN, fun ι S H σ x y v u Q L rx ry p => by
  cases y <;> try (cases x <;> exact p.elim)
  refine ⟨rel_non.mp ry, ?_⟩
  rw [← non_iff rx]
  exact p _ ι H (.refl ι H) L (rel_bl.mpr rfl)⟩, fun x y S d S' e => by cases y <;> cases e; exact ⟨_, rfl⟩⟩

def fAnd (f g : TF) : TF := fun ρ S => (f ρ S).bind fun k S1 => if k = true then g ρ S1 else .ok false S1
def fOr (f g : TF) : TF := fun ρ S => (f ρ S).bind fun k S1 => if k = true then .ok true S1 else g ρ S1
def fNot (f : TF) : TF := fun ρ S => (f ρ S).bind fun k S1 => .ok (!k) S1
theorem PW_imp {e : Expr} {t t' : TT} (h : PW X e t) (i : ∀ σ H Q, t' σ H Q → t σ H Q) : PW X e t' := ⟨fun wh pins s σ H Q I q => h.run wh pins s σ H Q I (i σ H Q q)⟩
theorem sw_and1 {f : TF} (h : PT X a (tT w f)) : PW X (.BoolOp .And [a] pos) (tT w f) := pw_and1 h
theorem sw_or1 {f : TF} (h : PT X a (tT w f)) : PW X (.BoolOp .Or [a] pos) (tT w f) := pw_or1 h
theorem sw_and {rest : List Expr} {f g : TF} (h : PT X a (tT w f)) (hb : PW X (.BoolOp .And (b :: rest) pos) (tT w g)) : PW X (.BoolOp .And (a :: b :: rest) pos) (tT w (fAnd f g)) := by
  refine PW_imp (pw_and h hb) fun σ H Q ⟨ι, ρ, S, L, Sl, p⟩ => ?_
  refine ⟨ι, ρ, S, L, Sl, PostT.thenT p fun k S1 p1 ι1 H1 x1 L1 => ?_⟩
  cases k with
  | true => exact ⟨ι1, ρ, S1, L1, Sl.ext x1, p1.ext x1⟩
  | false => exact p1 ι1 H1 x1 L1
theorem sw_or {rest : List Expr} {f g : TF} (h : PT X a (tT w f)) (hb : PW X (.BoolOp .Or (b :: rest) pos) (tT w g)) : PW X (.BoolOp .Or (a :: b :: rest) pos) (tT w (fOr f g)) := by
  refine PW_imp (pw_or h hb) fun σ H Q ⟨ι, ρ, S, L, Sl, p⟩ => ?_
  refine ⟨ι, ρ, S, L, Sl, PostT.thenT p fun k S1 p1 ι1 H1 x1 L1 => ?_⟩
  cases k with
  | true => exact p1 ι1 H1 x1 L1
  | false => exact ⟨ι1, ρ, S1, L1, Sl.ext x1, p1.ext x1⟩
theorem st_not {f : TF} (h : PT X a (tT w f)) : PT X (.UnaryOp .Not a pos) (tT w (fNot f)) := by
  refine PT_imp (pt_not h) fun σ H Q ⟨ι, ρ, S, L, Sl, p⟩ => ?_
  exact ⟨ι, ρ, S, L, Sl, PostT.thenT p fun k S1 p1 ι1 H1 x1 L1 => p1 ι1 H1 x1 L1⟩
/-- values of truth by and, or, not -/
def eAnd (f g : EF) : EF := fun ρ S => (f ρ S).bind fun x S1 => match x with
  | .bl true => g ρ S1
  | .bl false => .ok (.bl false) S1
  | _ => .bad
def eOr (f g : EF) : EF := fun ρ S => (f ρ S).bind fun x S1 => match x with
  | .bl true => .ok (.bl true) S1
  | .bl false => g ρ S1
  | _ => .bad
def eNot (f : EF) : EF := fun ρ S => (f ρ S).bind fun x S1 => match x with
  | .bl k => .ok (.bl (!k)) S1
  | _ => .bad
theorem se_one {op} {f : EF} (h : PE X a (tE w f)) : PE X (.BoolOp op [a] pos) (tE w f) := pe_one h
theorem se_and {rest : List Expr} {f g : EF} (h : PE X a (tE w f)) (hb : PE X (.BoolOp .And (b :: rest) pos) (tE w g)) : PE X (.BoolOp .And (a :: b :: rest) pos) (tE w (eAnd f g)) := by
  refine PE_imp (pe_and h hb) fun σ H Q ⟨ι, ρ, S, L, Sl, p⟩ => ?_
  refine ⟨ι, ρ, S, L, Sl, PostE.thenE p fun d S1 p1 v ι1 H1 x1 L1 r1 => ?_⟩
  cases d <;> try exact p1.elim
  rename_i k
  rw [rel_bl] at r1; subst r1
  refine ⟨k, rfl, ?_⟩
  cases k with
  | true => exact ⟨ι1, ρ, S1, L1, Sl.ext x1, p1.ext x1⟩
  | false => exact p1 _ ι1 H1 x1 L1 (rel_bl.mpr rfl)
theorem se_or {rest : List Expr} {f g : EF} (h : PE X a (tE w f)) (hb : PE X (.BoolOp .Or (b :: rest) pos) (tE w g)) : PE X (.BoolOp .Or (a :: b :: rest) pos) (tE w (eOr f g)) := by
  refine PE_imp (pe_or h hb) fun σ H Q ⟨ι, ρ, S, L, Sl, p⟩ => ?_
  refine ⟨ι, ρ, S, L, Sl, PostE.thenE p fun d S1 p1 v ι1 H1 x1 L1 r1 => ?_⟩
  cases d <;> try exact p1.elim
  rename_i k
  rw [rel_bl] at r1; subst r1
  refine ⟨k, rfl, ?_⟩
  cases k with
  | true => exact p1 _ ι1 H1 x1 L1 (rel_bl.mpr rfl)
  | false => exact ⟨ι1, ρ, S1, L1, Sl.ext x1, p1.ext x1⟩
theorem se_not {f : EF} (h : PE X a (tE w f)) : PE X (.UnaryOp .Not a pos) (tE w (eNot f)) := by
  refine PE_imp (pe_not h) fun σ H Q ⟨ι, ρ, S, L, Sl, p⟩ => ?_
  refine ⟨ι, ρ, S, L, Sl, PostE.thenE p fun d S1 p1 v ι1 H1 x1 L1 r1 => ?_⟩
  cases d <;> try exact p1.elim
  rename_i k
  rw [rel_bl] at r1; subst r1
  exact ⟨k, rfl, p1 _ ι1 H1 x1 L1 (rel_bl.mpr rfl)⟩
def eIf (f : TF) (g h : EF) : EF := fun ρ S => (f ρ S).bind fun k S1 => if k = true then g ρ S1 else h ρ S1
theorem se_if {f : TF} {g h : EF} (hc : PT X c (tT w f)) (ha : PE X a (tE w g)) (hb : PE X b (tE w h)) : PE X (.IfExp c a b pos) (tE w (eIf f g h)) := by
  refine PE_imp (pe_ifExp hc ha hb) fun σ H Q ⟨ι, ρ, S, L, Sl, p⟩ => ?_
  refine ⟨ι, ρ, S, L, Sl, PostT.thenE p fun k S1 p1 ι1 H1 x1 L1 => ?_⟩
  cases k with
  | true => exact ⟨ι1, ρ, S1, L1, Sl.ext x1, p1.ext x1⟩
  | false => exact ⟨ι1, ρ, S1, L1, Sl.ext x1, p1.ext x1⟩

def eTup (f : AF) : EF := fun ρ S => (f ρ S).bind fun xs S1 => if xs.length ≤ LIM then .ok (.tup xs) S1 else .bad
def eLst (f : AF) : EF := fun ρ S => (f ρ S).bind fun xs S1 => if xs.length ≤ LIM then newL S1 xs else .bad
theorem se_tup {es : List Expr} {k} {f : AF} (h : PA X es (tA w f)) : PE X (.Tuple es k pos) (tE w (eTup f)) := by
  refine PE_imp (pe_tup h) fun σ H Q ⟨ι, ρ, S, L, Sl, p⟩ => ?_
  refine ⟨ι, ρ, S, L, Sl, PostA.thenE p fun xs S1 p1 vs ι1 H1 x1 L1 r1 => ?_⟩
  split at p1
  · rename_i hz
    exact ⟨by rw [lim_eq, r1.length]; exact hz, post_tup L1 r1 (p1.ext x1)⟩
  · exact p1.elim
theorem se_lst {es : List Expr} {f : AF} (h : PA X es (tA w f)) : PE X (.List es pos) (tE w (eLst f)) := by
  refine PE_imp (pe_lst h) fun σ H Q ⟨ι, ρ, S, L, Sl, p⟩ => ?_
  refine ⟨ι, ρ, S, L, Sl, PostA.thenE p fun xs S1 p1 vs ι1 H1 x1 L1 r1 => ?_⟩
  split at p1
  · rename_i hz
    exact ⟨by rw [lim_eq, r1.length]; exact hz, post_newL L1 r1 (p1.ext x1)⟩
  · exact p1.elim

def RuleC (w : Wd) (r : List V → Hp → VK → Prop) (g : List D → Store → R D) : Prop := ∀ (ι : List Addr) (S : Store) (H : Hp) (σ : L2.St) (xs : List D) (vs : List V) (Q : VK), Link w.K ι S H → RelL ι H xs vs → PostE w ι H σ Q (g xs S) → r vs H Q
def eCall (g : List D → Store → R D) (f : AF) : EF := fun ρ S => (f ρ S).bind fun xs S1 => g xs S1
theorem call_use {r : List V → Hp → VK → Prop} {g : List D → Store → R D} {f : AF} (hg : RuleC w r g) {σ : L2.St} {H : Hp} {Q : VK} (h : tE w (eCall g f) σ H Q) : tCB r (tA w f) σ H Q := by
  obtain ⟨ι, ρ, S, L, Sl, p⟩ := h
  exact ⟨ι, ρ, S, L, Sl, PostA.thenE p fun xs S1 p1 vs ι1 H1 x1 L1 r1 => hg ι1 S1 H1 σ xs vs Q L1 r1 (p1.ext x1)⟩
theorem se_callB {id : String} {x : Str} {e : Expr} {es : List Expr} {p : Pos} {r : List V → Hp → VK → Prop} {g : List D → Store → R D} {f : AF} (hc : CallR X (.builtin id) r) (hg : RuleC w r g) (ha : PA X (e :: es) (tA w f))
    (h : PA X (e :: es) (tA w f) → PE X (.Call (.Name x p) (e :: es) [] pos) (tCB r (tA w f))) : PE X (.Call (.Name x p) (e :: es) [] pos) (tE w (eCall g f)) :=
  PE_imp (h ha) fun σ H Q q => call_use hg q
end
end Z

set_option Elab.async false
set_option linter.all false
set_option maxRecDepth 100000
set_option maxHeartbeats 1000000
namespace Z
variable [Tabs]
open PySem L2 PySem.Spec PyProof.Rows

inductive RS where
  | nx (ρ : Rho) (S : Store) | rt (d : D) (S : Store) | bk (ρ : Rho) (S : Store) | ct (ρ : Rho) (S : Store)
  | exc (c : Str) (fs : List (Str × D)) (ρ : Rho) (S : Store) | bad
abbrev SF := Rho → Store → RS
/-- an expression ahead of a statement's step -/
def R.to {α : Type} : R α → Rho → (α → Store → RS) → RS
  | .ok a S, _, k => k a S
  | .exc c fs S, ρ, _ => .exc c fs ρ S
  | .bad, _, _ => .bad
@[simp] theorem R.to_ok {α : Type} (a : α) (S : Store) (ρ : Rho) (k : α → Store → RS) : (R.ok a S).to ρ k = k a S := rfl
@[simp] theorem R.to_exc {α : Type} (c : Str) (fs : List (Str × D)) (S : Store) (ρ : Rho) (k : α → Store → RS) : (R.exc c fs S).to ρ k = .exc c fs ρ S := rfl
@[simp] theorem R.to_bad {α : Type} (ρ : Rho) (k : α → Store → RS) : (R.bad : R α).to ρ k = .bad := rfl

def PostS (w : Wd) (ι : List Addr) (H : Hp) (E : Ends) : RS → Prop
  | .nx ρ' S' => ∀ σ' ι' H', Ext ι H ι' H' → Link w.K ι' S' H' → Slots ι' H' ρ' σ' → E.nx σ' H'
  | .rt d S' => ∀ v ι' H', Ext ι H ι' H' → Link w.K ι' S' H' → Rel ι' H' d v → E.rt v H'
  | .bk ρ' S' => ∀ σ' ι' H', Ext ι H ι' H' → Link w.K ι' S' H' → Slots ι' H' ρ' σ' → E.bk σ' H'
  | .ct ρ' S' => ∀ σ' ι' H', Ext ι H ι' H' → Link w.K ι' S' H' → Slots ι' H' ρ' σ' → E.ct σ' H'
  | .exc c fs ρ' S' => ∀ cls dd σ' ι' H', Ext ι H ι' H' → Link w.K ι' S' H' → Slots ι' H' ρ' σ' → ExcR w.CA ι' H' c fs cls dd → w.W cls dd σ' H'
  | .bad => False
def tS (w : Wd) (g : SF) : TS := fun E σ H => ∃ ι ρ S, Link w.K ι S H ∧ Slots ι H ρ σ ∧ PostS w ι H E (g ρ S)

section
variable {w : Wd} {ι ι1 : List Addr} {H H1 : Hp} {σ : L2.St} {ρ : Rho} {E : Ends}
theorem PostS.ext {r : RS} (x : Ext ι H ι1 H1) (h : PostS w ι H E r) : PostS w ι1 H1 E r := by
  cases r with
  | nx ρ S => exact fun σ' ι' H' y => h σ' ι' H' (x.trans y)
  | rt d S => exact fun v ι' H' y => h v ι' H' (x.trans y)
  | bk ρ S => exact fun σ' ι' H' y => h σ' ι' H' (x.trans y)
  | ct ρ S => exact fun σ' ι' H' y => h σ' ι' H' (x.trans y)
  | exc c fs ρ S => exact fun cls dd σ' ι' H' y => h cls dd σ' ι' H' (x.trans y)
  | bad => exact h
theorem PostE.toS {Q : VK} {r : R D} {k : D → Store → RS} (Sl : Slots ι H ρ σ) (h : PostS w ι H E (r.to ρ k))
    (q : ∀ d S', PostS w ι H E (k d S') → ∀ v ι' H', Ext ι H ι' H' → Link w.K ι' S' H' → Rel ι' H' d v → Q v H') : PostE w ι H σ Q r := by
  cases r with
  | ok d S => exact fun v ι' H' y L e => q d S h v ι' H' y L e
  | exc c fs S => exact fun cls dd ι' H' y L e => h cls dd σ ι' H' y L (Sl.ext y) e
  | bad => exact h
theorem PostT.toS {Q : Bool → Hp → Prop} {r : R Bool} {k : Bool → Store → RS} (Sl : Slots ι H ρ σ) (h : PostS w ι H E (r.to ρ k))
    (q : ∀ d S', PostS w ι H E (k d S') → ∀ ι' H', Ext ι H ι' H' → Link w.K ι' S' H' → Q d H') : PostT w ι H σ Q r := by
  cases r with
  | ok d S => exact fun ι' H' y L => q d S h ι' H' y L
  | exc c fs S => exact fun cls dd ι' H' y L e => h cls dd σ ι' H' y L (Sl.ext y) e
  | bad => exact h
theorem PostA.toS {Q : List V → Hp → Prop} {r : R (List D)} {k : List D → Store → RS} (Sl : Slots ι H ρ σ) (h : PostS w ι H E (r.to ρ k))
    (q : ∀ d S', PostS w ι H E (k d S') → ∀ v ι' H', Ext ι H ι' H' → Link w.K ι' S' H' → RelL ι' H' d v → Q v H') : PostA w ι H σ Q r := by
  cases r with
  | ok d S => exact fun v ι' H' y L e => q d S h v ι' H' y L e
  | exc c fs S => exact fun cls dd ι' H' y L e => h cls dd σ ι' H' y L (Sl.ext y) e
  | bad => exact h
end

def sNil : SF := fun ρ S => .nx ρ S
def sSeq (g h : SF) : SF := fun ρ S => match g ρ S with
  | .nx ρ' S' => h ρ' S'
  | r => r
section
variable {X : Cx} {w : Wd} {st : Stmt} {rest : List Stmt} {g h : SF} {e : Expr} {f : EF} {pos : Pos}
theorem ss_nil : PSs X [] (tS w sNil) := PSs_imp pss_nil fun D σ H ⟨ι, ρ, S, L, Sl, p⟩ => p σ ι H (.refl ι H) L Sl
theorem ss_cons (h1 : PS X st (tS w g)) (h2 : PSs X rest (tS w h)) : PSs X (st :: rest) (tS w (sSeq g h)) := by
  refine PSs_imp (pss_cons h1 h2) fun D σ H ⟨ι, ρ, S, L, Sl, p⟩ => ⟨ι, ρ, S, L, Sl, ?_⟩
  unfold sSeq at p
  cases r : g ρ S with
  | nx ρ' S' => rw [r] at p; exact fun σ' ι' H' x L' Sl' => ⟨ι', ρ', S', L', Sl', p.ext x⟩
  | rt d S' => rw [r] at p; exact p
  | bk ρ' S' => rw [r] at p; exact p
  | ct ρ' S' => rw [r] at p; exact p
  | exc c fs ρ' S' => rw [r] at p; exact p
  | bad => rw [r] at p; exact p
theorem ss_one (h1 : PS X st (tS w g)) : PSs X [st] (tS w g) := pss_one h1
theorem s_pass : PS X (.Pass pos) (tS w sNil) := PS_imp ps_pass fun D σ H ⟨ι, ρ, S, L, Sl, p⟩ => p σ ι H (.refl ι H) L Sl
def sBreak : SF := fun ρ S => .bk ρ S
def sCont : SF := fun ρ S => .ct ρ S
theorem s_break : PS X (.Break pos) (tS w sBreak) := PS_imp ps_break fun D σ H ⟨ι, ρ, S, L, Sl, p⟩ => p σ ι H (.refl ι H) L Sl
theorem s_cont : PS X (.Continue pos) (tS w sCont) := PS_imp ps_continue fun D σ H ⟨ι, ρ, S, L, Sl, p⟩ => p σ ι H (.refl ι H) L Sl
def sExpr (f : EF) : SF := fun ρ S => (f ρ S).to ρ fun _ S1 => .nx ρ S1
theorem s_expr (he : PE X e (tE w f)) (hs : swapsWith e none pos.line X.env = pure false := by rfl) : PS X (.Expr e pos) (tS w (sExpr f)) := by
  refine PS_imp (ps_expr he hs) fun D σ H ⟨ι, ρ, S, L, Sl, p⟩ => ?_
  exact ⟨ι, ρ, S, L, Sl, PostE.toS Sl p fun d S' q v ι' H' x L' r => q σ ι' H' x L' (Sl.ext x)⟩
def sRet (f : EF) : SF := fun ρ S => (f ρ S).to ρ fun d S1 => .rt d S1
theorem s_ret (he : PE X e (tE w f)) : PS X (.Return (some e) pos) (tS w (sRet f)) := by
  refine PS_imp (ps_ret he) fun D σ H ⟨ι, ρ, S, L, Sl, p⟩ => ?_
  exact ⟨ι, ρ, S, L, Sl, PostE.toS Sl p fun d S' q v ι' H' x L' r => q v ι' H' x L' r⟩
def sSet (i : Nat) (f : EF) : SF := fun ρ S => (f ρ S).to ρ fun d S1 => .nx (ρ.set i (some d)) S1
theorem s_set (i : Nat) {x : Str} {pos' : Pos} (hN : X.N.Nodup) (hi : X.N[i]? = some x) (hx : Loc X.env.scope x) (he : PE X e (tE w f)) (hs : swapsWith e (some (.Name x pos')) pos.line X.env = pure false := by rfl)
    (hf : X.fn x = true ∨ X.env.scope.names.lookup x = some .local := by first | exact .inl rfl | exact .inr rfl | assumption) : PS X (.Assign [.Name x pos'] e pos) (tS w (sSet i f)) := by
  refine PS_imp (ps_set hN hi hx he hs hf) fun D σ H ⟨ι, ρ, S, L, Sl, p⟩ => ?_
  exact ⟨ι, ρ, S, L, Sl, PostE.toS Sl p fun d S' q v ι' H' x' L' r => q _ ι' H' x' L' ((Sl.ext x').set i r)⟩
def sIf (c : TF) (g h : SF) : SF := fun ρ S => (c ρ S).to ρ fun k S1 => if k = true then g ρ S1 else h ρ S1
theorem s_if {c : Expr} {fc : TF} {as bs : List Stmt} (hc : PT X c (tT w fc)) (ha : PSs X as (tS w g)) (hb : PSs X bs (tS w h)) : PS X (.If c as bs pos) (tS w (sIf fc g h)) := by
  refine PS_imp (ps_if hc ha hb) fun D σ H ⟨ι, ρ, S, L, Sl, p⟩ => ?_
  refine ⟨ι, ρ, S, L, Sl, PostT.toS Sl p fun k S' q ι' H' x L' => ?_⟩
  cases k with
  | true => exact ⟨ι', ρ, S', L', Sl.ext x, q.ext x⟩
  | false => exact ⟨ι', ρ, S', L', Sl.ext x, q.ext x⟩

abbrev GF := D → Rho → Option Rho
def tG (w : Wd) (g : GF) : TG := fun v σ H Q => ∃ ι ρ S d, Link w.K ι S H ∧ Slots ι H ρ σ ∧ Rel ι H d v ∧ match g d ρ with
  | some ρ' => ∀ σ', Slots ι H ρ' σ' → Q σ' H
  | none => False
abbrev GFs := List D → Rho → Option Rho
def tGs (w : Wd) (g : GFs) : TGs := fun vs σ H Q => ∃ ι ρ S ds, Link w.K ι S H ∧ Slots ι H ρ σ ∧ RelL ι H ds vs ∧ match g ds ρ with
  | some ρ' => ∀ σ', Slots ι H ρ' σ' → Q σ' H
  | none => False
theorem PG_imp {tg : Expr} {t t' : TG} (h : PG X tg t) (i : ∀ v σ H Q, t' v σ H Q → t v σ H Q) : PG X tg t' := ⟨fun pins s σ H v u Q I r q => h.run pins s σ H v u Q I r (i v σ H Q q)⟩
theorem PGs_imp {tg : List Expr} {t t' : TGs} (h : PGs X tg t) (i : ∀ v σ H Q, t' v σ H Q → t v σ H Q) : PGs X tg t' := ⟨fun pins s σ H v u Q I r q => h.run pins s σ H v u Q I r (i v σ H Q q)⟩
def gN (i : Nat) : GF := fun d ρ => some (ρ.set i (some d))
theorem sg_name (i : Nat) {x : Str} (h : PG X (.Name x pos) (gName i)) : PG X (.Name x pos) (tG w (gN i)) :=
  PG_imp h fun v σ H Q ⟨ι, ρ, S, d, L, Sl, r, p⟩ => p _ (Sl.set i r)
def gsNil : GFs := fun ds ρ => match ds with
  | [] => some ρ
  | _ => none
def gsCons (g : GF) (h : GFs) : GFs := fun ds ρ => match ds with
  | d :: r => match g d ρ with
    | some ρ' => h r ρ'
    | none => none
  | [] => none
theorem sgs_nil : PGs X [] (tGs w gsNil) := by
  refine PGs_imp pgs_nil fun vs σ H Q ⟨ι, ρ, S, ds, L, Sl, r, p⟩ => ?_
  cases ds with
  | nil => exact ⟨relL_nil.mp r, p σ Sl⟩
  | cons d ds => exact p.elim
theorem sgs_cons {e : Expr} {es : List Expr} {g : GF} {h : GFs} (h1 : PG X e (tG w g)) (h2 : PGs X es (tGs w h))
    (hs : (assignEach (e :: es) X.env).map (·.2) = assign e X.env :: (assignEach es X.env).map (·.2) := by rfl) : PGs X (e :: es) (tGs w (gsCons g h)) := by
  refine PGs_imp (pgs_cons h1 h2 hs) fun vs σ H Q ⟨ι, ρ, S, ds, L, Sl, r, p⟩ => ?_
  cases ds with
  | nil => exact p.elim
  | cons d ds =>
    obtain ⟨v, t, rfl, r1, r2⟩ := relL_cons.mp r
    refine ⟨v, t, rfl, ι, ρ, S, d, L, Sl, r1, ?_⟩
    unfold gsCons at p
    cases q : g d ρ with
    | none => simp only [q] at p
    | some ρ' =>
      simp only [q] at p ⊢
      exact fun σ' Sl' => ⟨ι, ρ', S, ds, L, Sl', r2, p⟩
def gTupD (n : Nat) (h : GFs) : GF := fun d ρ => match d with
  | .tup xs => if xs.length = n then h xs ρ else none
  | _ => none
theorem sg_tup {es : List Expr} {k : Nat} {h : GFs} {n : Nat} (hc : X.calm = true) (hh : PGs X es (tGs w h)) (hn : (assignEach es X.env).length = n := by rfl) (hst : (assignEach es X.env).findIdx? (·.1) = none := by rfl) : PG X (.Tuple es k pos) (tG w (gTupD n h)) := by
  refine PG_imp (pg_tup hc hh hn hst) fun v σ H Q ⟨ι, ρ, S, d, L, Sl, r, p⟩ => ?_
  cases d <;> try exact p.elim
  rename_i xs
  obtain ⟨a, vs, rfl, h1, l⟩ := rel_tup.mp r
  unfold gTupD at p
  by_cases hz : xs.length = n
  · simp only [if_pos hz] at p
    exact ⟨a, vs, rfl, SqT.of h1, by rw [l.length]; exact hz, ι, ρ, S, xs, L, Sl, l, p⟩
  · simp only [if_neg hz] at p
/-- target = value -/
def sAsg (g : GF) (f : EF) : SF := fun ρ S => (f ρ S).to ρ fun d S1 => match g d ρ with
  | some ρ' => .nx ρ' S1
  | none => .bad
theorem s_asg {tg : Expr} {gg : GF} (he : PE X e (tE w f)) (hg : PG X tg (tG w gg)) (hs : swapsWithSole [tg] e pos.line X.env = pure false := by rfl) (hw : swappedStores [tg] e X.env = pure none := by rfl)
    (h1 : (assignEach [tg] X.env).map (·.2) = [assign tg X.env] := by rfl) : PS X (.Assign [tg] e pos) (tS w (sAsg gg f)) := by
  refine PS_imp (ps_asg he hg hs hw h1) fun D σ H ⟨ι, ρ, S, L, Sl, p⟩ => ?_
  refine ⟨ι, ρ, S, L, Sl, PostE.toS Sl p fun d S' q v ι' H' x' L' r => ⟨ι', ρ, S', d, L', Sl.ext x', r, ?_⟩⟩
  cases z : gg d ρ with
  | none => simp only [z] at q; exact q
  | some ρ' => simp only [z] at q ⊢; exact fun σ' Sl' => q σ' ι' H' x' L' Sl'
/-- a, b = x, y with plain local names -/
def sPar (i j : Nat) (f : AF) : SF := fun ρ S => (f ρ S).to ρ fun ds S1 => match ds with
  | [a, b] => .nx ((ρ.set i (some a)).set j (some b)) S1
  | _ => .bad
theorem s_par {i j : Nat} {x y : Str} {a b : Expr} {fa : AF} {px py pt : Pos} {kt k2 pt2} (hc : X.calm = true) (hN : X.N.Nodup) (hi : X.N[i]? = some x) (hj : X.N[j]? = some y) (hij : i ≠ j)
    (hx : X.env.scope.names.lookup x = some .local) (hy : X.env.scope.names.lookup y = some .local) (ha : PA X [a, b] (tA w fa))
    (hw : swappedStores [.Tuple [.Name x px, .Name y py] kt pt] (.Tuple [a, b] k2 pt2) X.env = pure (some [x, y]))
    (hs : swapsWithSole [.Tuple [.Name x px, .Name y py] kt pt] (.Tuple [a, b] k2 pt2) pos.line X.env = pure false := by rfl) :
    PS X (.Assign [.Tuple [.Name x px, .Name y py] kt pt] (.Tuple [a, b] k2 pt2) pos) (tS w (sPar i j fa)) := by
  refine PS_imp (ps_par hc hN hi hj hij hx hy ha hw hs) fun D σ H ⟨ι, ρ, S, L, Sl, p⟩ => ?_
  refine ⟨ι, ρ, S, L, Sl, PostA.toS Sl p fun ds S' q v ι' H' x' L' r => ?_⟩
  match ds, q, r with
  | [d1, d2], q, r =>
    obtain ⟨v1, t, rfl, r1, r2⟩ := relL_cons.mp r
    obtain ⟨v2, t2, rfl, r3, r4⟩ := relL_cons.mp r2
    rw [relL_nil.mp r4]
    exact ⟨v1, v2, rfl, q _ ι' H' x' L' (((Sl.ext x').set i r1).set j r3)⟩
  | [], q, _ => exact q.elim
  | [_], q, _ => exact q.elim
  | _ :: _ :: _ :: _, q, _ => exact q.elim

/-- a loop over things, as long as chk holds of the store -/
def loop (gg : GF) (chk : Store → Bool) (body : SF) : List D → SF
  | [], ρ, S => if chk S = true then .nx ρ S else .bad
  | x :: xs, ρ, S => if chk S = true then (match gg x ρ with
    | some ρ1 => (match body ρ1 S with
      | .nx ρ2 S2 => loop gg chk body xs ρ2 S2
      | .ct ρ2 S2 => loop gg chk body xs ρ2 S2
      | .bk ρ2 S2 => .nx ρ2 S2
      | r => r)
    | none => .bad) else .bad
theorem loop_turn {gg : GF} {chk : Store → Bool} {body : SF} {x : D} {xs : List D} {ρ : Rho} {S : Store} {ι : List Addr} {H : Hp} {E : Ends} {N : L2.St → Hp → Prop} (p : PostS w ι H E (loop gg chk body (x :: xs) ρ S))
    (hN : ∀ σ' ι' H' ρ' S', Ext ι H ι' H' → Link w.K ι' S' H' → Slots ι' H' ρ' σ' → PostS w ι' H' E (loop gg chk body xs ρ' S') → N σ' H') :
    chk S = true ∧ ∃ ρ1, gg x ρ = some ρ1 ∧ PostS w ι H { E with nx := N, ct := N, bk := E.nx } (body ρ1 S) := by
  unfold loop at p
  by_cases hz : chk S = true
  · rw [if_pos hz] at p
    cases z : gg x ρ with
    | none => simp only [z] at p; exact p.elim
    | some ρ1 =>
      refine ⟨hz, ρ1, rfl, ?_⟩
      simp only [z] at p
      cases r : body ρ1 S with
      | nx ρ2 S2 => simp only [r] at p; exact fun σ' ι' H' y L' Sl' => hN σ' ι' H' ρ2 S2 y L' Sl' (p.ext y)
      | ct ρ2 S2 => simp only [r] at p; exact fun σ' ι' H' y L' Sl' => hN σ' ι' H' ρ2 S2 y L' Sl' (p.ext y)
      | bk ρ2 S2 => simp only [r] at p; exact p
      | rt d S2 => simp only [r] at p; exact p
      | exc c fs ρ2 S2 => simp only [r] at p; exact p
      | bad => simp only [r] at p; exact p
  · rw [if_neg hz] at p; exact p.elim
def noChk : Store → Bool := fun _ => true
/-- for target in a tuple -/
def sForT (f : EF) (gg : GF) (body : SF) : SF := fun ρ S => (f ρ S).to ρ fun d S1 => match d with
  | .tup xs => loop gg noChk body xs ρ S1
  | _ => .bad
theorem s_forT {tg iter : Expr} {body : List Stmt} {gg : GF} (hp : PassesOwn (model X.prog X.w) X.A X.env X.xe) (hc : X.calm = true) (hi : PE X iter (tE w f)) (hg : PG X tg (tG w gg)) (hb : PSs X body (tS w g)) (hK : X.K = w.K := by rfl)
    (hs : ∀ x, foldedSetIterable iter X.env x = pure x := by intro _; rfl) : PS X (.For tg iter body [] pos) (tS w (sForT f gg g)) := by
  refine PS_imp (ps_for hp hc (pi_tup hi) hg hb hs) fun D σ H ⟨ι, ρ, S, L, Sl, p⟩ => ?_
  refine ⟨ι, ρ, S, L, Sl, PostE.toS Sl p fun d S1 q v ι1 H1 x1 L1 r1 => ?_⟩
  cases d <;> try exact q.elim
  rename_i xs
  obtain ⟨a, vs, rfl, h1, l1⟩ := rel_tup.mp r1
  refine ⟨a, rfl, ⟨vs, SqT.of h1⟩, for_tup (K := X.K) (a := a) (xs := vs) (fun i σ' H' => ∃ ι' ρ' S', Ext ι1 H1 ι' H' ∧ Link w.K ι' S' H' ∧ Slots ι' H' ρ' σ' ∧ PostS w ι' H' D (loop gg noChk g (xs.drop i) ρ' S')) ⟨ι1, ρ, S1, .refl _ _, L1, Sl.ext x1, q.ext x1⟩ ?_ ?_ ?_⟩
  · rintro i σ' H' _ ⟨ι', ρ', S', x', _⟩
    exact SqT.of (x'.keep a _ h1 (.inl rfl))
  · rintro i y σ' H' hy ⟨ι', ρ', S', x', L', Sl', p'⟩
    obtain ⟨d, hd, rd⟩ := (l1.ext x').getV hy
    obtain ⟨hl, e⟩ := List.getElem?_eq_some_iff.mp hd
    rw [List.drop_eq_getElem_cons hl, e] at p'
    obtain ⟨_, ρ1, z, pb⟩ := loop_turn (N := fun σ2 H2 => ∃ ι2 ρ2 S2, Ext ι1 H1 ι2 H2 ∧ Link w.K ι2 S2 H2 ∧ Slots ι2 H2 ρ2 σ2 ∧ PostS w ι2 H2 D (loop gg noChk g (xs.drop (i + 1)) ρ2 S2)) p'
      fun σ2 ι2 H2 ρ2 S2 y2 L2 Sl2 p2 => ⟨ι2, ρ2, S2, x'.trans y2, L2, Sl2, p2⟩
    refine ⟨ι', ρ', S', d, L', Sl', rd, ?_⟩
    rw [z]
    exact fun σ2 Sl2 => ⟨ι', ρ1, S', L', Sl2, pb⟩
  · rintro σ' H' ⟨ι', ρ', S', x', L', Sl', p'⟩
    rw [l1.length, List.drop_length] at p'
    exact p' σ' ι' H' (.refl _ _) L' Sl'
/-- for target in a list that stays as it is (or the script) -/
def chkL (d : D) (xs : List D) : Store → Bool := fun S => match asL S d with
  | some ys => D.eqbL ys xs
  | none => false
mutual
theorem D.eqb_ok : ∀ {x y : D}, D.eqb x y = true → x = y
  | .non, y, h => by cases y <;> simp_all [D.eqb]
  | .bl a, y, h => by cases y <;> simp_all [D.eqb]
  | .int a, y, h => by cases y <;> simp_all [D.eqb]
  | .str a, y, h => by cases y <;> simp_all [D.eqb]
  | .ob a, y, h => by cases y <;> simp_all [D.eqb]
  | .tup a, y, h => by
    cases y with
    | tup b => rw [D.eqbL_ok (x := a) (y := b) (by simpa [D.eqb] using h)]
    | _ => simp [D.eqb] at h
theorem D.eqbL_ok : ∀ {x y : List D}, D.eqbL x y = true → x = y
  | [], y, h => by cases y <;> simp_all [D.eqbL]
  | a :: x, y, h => by
    cases y with
    | nil => simp [D.eqbL] at h
    | cons b y =>
      simp only [D.eqbL, Bool.and_eq_true] at h
      rw [D.eqb_ok h.1, D.eqbL_ok h.2]
end
mutual
theorem D.eqb_self : ∀ x : D, D.eqb x x = true
  | .non => rfl
  | .bl a => by simp [D.eqb]
  | .int a => by simp [D.eqb]
  | .str a => by simp [D.eqb]
  | .ob a => by simp [D.eqb]
  | .tup a => by simp only [D.eqb]; exact D.eqbL_self a
theorem D.eqbL_self : ∀ x : List D, D.eqbL x x = true
  | [] => rfl
  | a :: x => by simp only [D.eqbL, D.eqb_self a, D.eqbL_self x, Bool.and_self]
end
theorem chkL_ok {d : D} {xs : List D} {S : Store} : chkL d xs S = true ↔ asL S d = some xs := by
  unfold chkL
  cases e : asL S d with
  | none => simp
  | some ys => exact ⟨fun h => by rw [D.eqbL_ok h], fun h => by cases h; exact D.eqbL_self _⟩
def sForL (f : EF) (gg : GF) (body : SF) : SF := fun ρ S => (f ρ S).to ρ fun d S1 => match asL S1 d with
  | some xs => loop gg (chkL d xs) body xs ρ S1
  | none => .bad
theorem loop_chk {gg : GF} {chk : Store → Bool} {body : SF} {xs : List D} {ρ : Rho} {S : Store} {ι : List Addr} {H : Hp} {E : Ends} (p : PostS w ι H E (loop gg chk body xs ρ S)) : chk S = true := by
  by_cases hz : chk S = true
  · exact hz
  · exfalso
    cases xs <;> (unfold loop at p; rw [if_neg hz] at p; exact p)
theorem s_forL {tg iter : Expr} {body : List Stmt} {gg : GF} (hp : PassesOwn (model X.prog X.w) X.A X.env X.xe) (hc : X.calm = true) (hi : PE X iter (tE w f)) (hg : PG X tg (tG w gg)) (hb : PSs X body (tS w g)) (hK : X.K = w.K := by rfl)
    (hs : ∀ x, foldedSetIterable iter X.env x = pure x := by intro _; rfl) : PS X (.For tg iter body [] pos) (tS w (sForL f gg g)) := by
  refine PS_imp (ps_for hp hc (pi_list hi) hg hb hs) fun D σ H ⟨ι, ρ, S, L, Sl, p⟩ => ?_
  refine ⟨ι, ρ, S, L, Sl, PostE.toS Sl p fun d S1 q v ι1 H1 x1 L1 r1 => ?_⟩
  cases e0 : asL S1 d with
  | none => simp only [e0] at q; exact q.elim
  | some xs =>
  simp only [e0] at q
  obtain ⟨a, vs, rfl, h1, l1⟩ := L1.seqL e0 r1
  have h1' : SqL X.K H1 a vs := by rw [hK]; exact h1
  have stays : ∀ {ι' : List Addr} {H' : Hp} {S' : Store}, Ext ι1 H1 ι' H' → Link w.K ι' S' H' → asL S' d = some xs → ∃ vs', SqL X.K H' a vs' ∧ RelL ι' H' xs vs' := fun {ι' H' S'} x' L' e' => by
    obtain ⟨a', vs', ea, h', l'⟩ := L'.seqL e' (r1.ext x')
    cases ea
    exact ⟨vs', by rw [hK]; exact h', l'⟩
  -- the list's values may be told anew at each turn
  refine ⟨a, rfl, ⟨vs, h1'⟩, ⟨fun i m σ' H' => m = xs.length - i ∧ i ≤ xs.length ∧ ∃ ι' ρ' S', Ext ι1 H1 ι' H' ∧ Link w.K ι' S' H' ∧ Slots ι' H' ρ' σ' ∧ PostS w ι' H' D (loop gg (chkL d xs) g (xs.drop i) ρ' S'), ⟨xs.length, by simp, Nat.zero_le _, ι1, ρ, S1, .refl _ _, L1, Sl.ext x1, q.ext x1⟩, ?_⟩⟩
  rintro i m σ' H' ⟨rfl, hi', ι', ρ', S', x', L', Sl', p'⟩
  obtain ⟨vs', hs', l'⟩ := stays x' L' (chkL_ok.mp (loop_chk p'))
  by_cases hlt : i < xs.length
  · have hv : i < vs'.length := by rw [l'.length]; exact hlt
    rw [List.drop_eq_getElem_cons hlt] at p'
    obtain ⟨_, ρ1, z, pb⟩ := loop_turn (N := fun σ2 H2 => ∃ ι2 ρ2 S2, Ext ι1 H1 ι2 H2 ∧ Link w.K ι2 S2 H2 ∧ Slots ι2 H2 ρ2 σ2 ∧ PostS w ι2 H2 D (loop gg (chkL d xs) g (xs.drop (i + 1)) ρ2 S2)) p'
      fun σ2 ι2 H2 ρ2 S2 y2 L2 Sl2 p2 => ⟨ι2, ρ2, S2, x'.trans y2, L2, Sl2, p2⟩
    refine .inr ⟨⟨vs', vs'[i], hs', by simp [hv]⟩, _, fun σ2 H2 h2 => ⟨xs.length - (i + 1), by omega, rfl, hlt, h2⟩, fun y H2 hy => ?_⟩
    obtain ⟨rfl, hy⟩ := hy
    have hy' := hy vs' hs'
    obtain ⟨d', hd, rd⟩ := l'.getV hy'
    have ed : d' = xs[i] := by
      have := (List.getElem?_eq_some_iff.mp hd).2
      exact this.symm
    subst ed
    refine ⟨ι', ρ', S', _, L', Sl', rd, ?_⟩
    rw [z]
    exact fun σ2 Sl2 => ⟨ι', ρ1, S', L', Sl2, pb⟩
  · have ei : i = xs.length := by omega
    subst ei
    rw [List.drop_length] at p'
    have hz := loop_chk p'
    unfold loop at p'
    rw [if_pos hz] at p'
    exact .inl ⟨⟨vs', hs', by rw [l'.length]; exact Nat.le_refl _⟩, p' σ' ι' H' (.refl _ _) L' Sl'⟩
/-- for target in range(..) -/
def upFrom (lo : Int) (n : Nat) : List D := (List.range n).map fun (i : Nat) => .int (lo + (i : Int))
theorem upFrom_length (lo : Int) (n : Nat) : (upFrom lo n).length = n := by simp [upFrom]
def int1? : List D → Option Int
  | [.int j] => some j
  | _ => none
def int2? : List D → Option (Int × Int)
  | [.int i, .int j] => some (i, j)
  | _ => none
theorem int1_of {ι : List Addr} {H : Hp} {ds : List D} {vs : List V} {j : Int} (e : int1? ds = some j) (r : RelL ι H ds vs) : vs = [.int j] := by
  unfold int1? at e
  split at e
  · cases e
    obtain ⟨v1, t, rfl, r2, r3⟩ := relL_cons.mp r
    rw [relL_nil.mp r3, rel_int.mp r2]
  · cases e
theorem int2_of {ι : List Addr} {H : Hp} {ds : List D} {vs : List V} {i j : Int} (e : int2? ds = some (i, j)) (r : RelL ι H ds vs) : vs = [.int i, .int j] := by
  unfold int2? at e
  split at e
  · cases e
    obtain ⟨v1, t, rfl, r2, r3⟩ := relL_cons.mp r
    obtain ⟨v2, t2, rfl, r4, r5⟩ := relL_cons.mp r3
    rw [relL_nil.mp r5, rel_int.mp r2, rel_int.mp r4]
  · cases e
def sForR1 (f : AF) (gg : GF) (body : SF) : SF := fun ρ S => (f ρ S).to ρ fun ds S1 => match int1? ds with
  | some j => if -(2 ^ 62) ≤ j ∧ j < 2 ^ 62 then loop gg noChk body (upFrom 0 j.toNat) ρ S1 else .bad
  | none => .bad
def sForR2 (f : AF) (gg : GF) (body : SF) : SF := fun ρ S => (f ρ S).to ρ fun ds S1 => match int2? ds with
  | some (i, j) => if -(2 ^ 62) ≤ i ∧ i < 2 ^ 62 ∧ -(2 ^ 62) ≤ j ∧ j < 2 ^ 62 then loop gg noChk body (upFrom i (j - i).toNat) ρ S1 else .bad
  | none => .bad
theorem range_loop {gg : GF} {E : Ends} {ι1 : List Addr} {H1 : Hp} {ρ : Rho} {S1 : Store} {σ : L2.St} {lo : Int} {n : Nat} (L1 : Link w.K ι1 S1 H1) (Sl : Slots ι1 H1 ρ σ) (q : PostS w ι1 H1 E (loop gg noChk g (upFrom lo n) ρ S1)) :
    ∃ W : Nat → Nat → L2.St → Hp → Prop, (∃ m, W 0 m σ H1) ∧ ∀ i m σ H, W i m σ H →
      ((Itr lo n).stop i H ∧ E.nx σ H) ∨ ((Itr lo n).go i H ∧ ∃ N : L2.St → Hp → Prop, (∀ σ' H', N σ' H' → ∃ m', m' < m ∧ W (i + 1) m' σ' H') ∧ ∀ x H', (Itr lo n).yld i H x H' → tG w gg x σ H' fun σ2 H2 => tS w g { E with nx := N, ct := N, bk := E.nx } σ2 H2) := by
  refine for_range (lo := lo) (n := n) (g := tG w gg) (tb := tS w g) (fun i σ' H' => ∃ ι' ρ' S', Ext ι1 H1 ι' H' ∧ Link w.K ι' S' H' ∧ Slots ι' H' ρ' σ' ∧ PostS w ι' H' E (loop gg noChk g ((upFrom lo n).drop i) ρ' S')) ⟨ι1, ρ, S1, .refl _ _, L1, Sl, q⟩ ?_ ?_
  · rintro i σ' H' hi ⟨ι', ρ', S', x', L', Sl', p'⟩
    have hl : i < (upFrom lo n).length := by rw [upFrom_length]; exact hi
    have ed : (upFrom lo n)[i] = .int (lo + i) := by simp [upFrom]
    rw [List.drop_eq_getElem_cons hl, ed] at p'
    obtain ⟨_, ρ1, z, pb⟩ := loop_turn (N := fun σ2 H2 => ∃ ι2 ρ2 S2, Ext ι1 H1 ι2 H2 ∧ Link w.K ι2 S2 H2 ∧ Slots ι2 H2 ρ2 σ2 ∧ PostS w ι2 H2 E (loop gg noChk g ((upFrom lo n).drop (i + 1)) ρ2 S2)) p'
      fun σ2 ι2 H2 ρ2 S2 y2 L2 Sl2 p2 => ⟨ι2, ρ2, S2, x'.trans y2, L2, Sl2, p2⟩
    refine ⟨ι', ρ', S', .int (lo + i), L', Sl', rel_int.mpr rfl, ?_⟩
    rw [z]
    exact fun σ2 Sl2 => ⟨ι', ρ1, S', L', Sl2, pb⟩
  · rintro σ' H' ⟨ι', ρ', S', x', L', Sl', p'⟩
    have e : (upFrom lo n).drop n = [] := by rw [List.drop_eq_nil_iff, upFrom_length]; exact Nat.le_refl _
    rw [e] at p'
    exact p' σ' ι' H' (.refl _ _) L' Sl'
theorem s_forR1 {tg a : Expr} {body : List Stmt} {gg : GF} {fa : AF} {p' cpos : Pos} (hp : PassesOwn (model X.prog X.w) X.A X.env X.xe) (hc : X.calm = true) (hg0 : Gl X "range") (hm : X.mg "range" = none) (ha : PA X [a] (tA w fa)) (hg : PG X tg (tG w gg)) (hb : PSs X body (tS w g))
    (hst : starEach [a] X.env = [(false, eval a X.env)] := by rfl) (hs : ∀ x, foldedSetIterable (.Call (.Name "range" p') [a] [] cpos) X.env x = pure x := by intro _; rfl) : PS X (.For tg (.Call (.Name "range" p') [a] [] cpos) body [] pos) (tS w (sForR1 fa gg g)) := by
  refine PS_imp (ps_for hp hc (pi_range1 hg0 hm ha hst) hg hb hs) fun D σ H ⟨ι, ρ, S, L, Sl, p⟩ => ?_
  refine ⟨ι, ρ, S, L, Sl, PostA.toS Sl p fun ds S1 q vs ι1 H1 x1 L1 r1 => ?_⟩
  cases e : int1? ds with
  | none => simp only [e] at q; exact q.elim
  | some j =>
    simp only [e] at q
    split at q
    · rename_i hz
      exact ⟨j, int1_of e r1, hz.1, hz.2, range_loop L1 (Sl.ext x1) (q.ext x1)⟩
    · exact q.elim
theorem s_forR2 {tg a b : Expr} {body : List Stmt} {gg : GF} {fa : AF} {p' cpos : Pos} (hp : PassesOwn (model X.prog X.w) X.A X.env X.xe) (hc : X.calm = true) (hg0 : Gl X "range") (hm : X.mg "range" = none) (ha : PA X [a, b] (tA w fa)) (hg : PG X tg (tG w gg)) (hb : PSs X body (tS w g))
    (hst : starEach [a, b] X.env = [(false, eval a X.env), (false, eval b X.env)] := by rfl) (hst2 : starEach [b] X.env = [(false, eval b X.env)] := by rfl)
    (hs : ∀ x, foldedSetIterable (.Call (.Name "range" p') [a, b] [] cpos) X.env x = pure x := by intro _; rfl) : PS X (.For tg (.Call (.Name "range" p') [a, b] [] cpos) body [] pos) (tS w (sForR2 fa gg g)) := by
  refine PS_imp (ps_for hp hc (pi_range2 hg0 hm ha hst hst2) hg hb hs) fun D σ H ⟨ι, ρ, S, L, Sl, p⟩ => ?_
  refine ⟨ι, ρ, S, L, Sl, PostA.toS Sl p fun ds S1 q vs ι1 H1 x1 L1 r1 => ?_⟩
  cases e : int2? ds with
  | none => simp only [e] at q; exact q.elim
  | some ij =>
    obtain ⟨i, j⟩ := ij
    simp only [e] at q
    split at q
    · rename_i hz
      exact ⟨i, j, int2_of e r1, hz, range_loop L1 (Sl.ext x1) (q.ext x1)⟩
    · exact q.elim
/-- while, at most so many turns -/
def sWhileN (c : TF) (body : SF) : Nat → SF
  | 0, _, _ => .bad
  | n + 1, ρ, S => (c ρ S).to ρ fun k S1 => if k = true then (match body ρ S1 with
    | .nx ρ2 S2 => sWhileN c body n ρ2 S2
    | .ct ρ2 S2 => sWhileN c body n ρ2 S2
    | .bk ρ2 S2 => .nx ρ2 S2
    | r => r) else .nx ρ S1
theorem s_while (n : Nat) {c : Expr} {fc : TF} {body : List Stmt} (hp : PassesOwn (model X.prog X.w) X.A X.env X.xe) (hc : PT X c (tT w fc)) (hb : PSs X body (tS w g)) : PS X (.While c body [] pos) (tS w (sWhileN fc g n)) := by
  refine PS_imp (ps_while hp hc hb) fun D σ H ⟨ι, ρ, S, L, Sl, p⟩ => ?_
  refine ⟨fun m σ' H' => ∃ ι' ρ' S', Link w.K ι' S' H' ∧ Slots ι' H' ρ' σ' ∧ PostS w ι' H' D (sWhileN fc g m ρ' S'), ⟨n, ι, ρ, S, L, Sl, p⟩, ?_⟩
  rintro m σ' H' ⟨ι', ρ', S', L', Sl', p'⟩
  cases m with
  | zero => exact p'.elim
  | succ m =>
    refine ⟨ι', ρ', S', L', Sl', PostT.toS Sl' p' fun k S1 q ι1 H1 x1 L1 => ?_⟩
    cases k with
    | false => exact q σ' ι1 H1 x1 L1 (Sl'.ext x1)
    | true =>
      refine ⟨fun σ2 H2 => ∃ ι2 ρ2 S2, Link w.K ι2 S2 H2 ∧ Slots ι2 H2 ρ2 σ2 ∧ PostS w ι2 H2 D (sWhileN fc g m ρ2 S2), fun σ2 H2 h2 => ⟨m, Nat.lt_succ_self m, h2⟩, ι1, ρ', S1, L1, Sl'.ext x1, ?_⟩
      have q1 := q.ext x1
      rw [if_pos rfl] at q1
      cases r : g ρ' S1 with
      | nx ρ2 S2 => simp only [r] at q1; exact fun σ2 ι2 H2 y L2 Sl2 => ⟨ι2, ρ2, S2, L2, Sl2, q1.ext y⟩
      | ct ρ2 S2 => simp only [r] at q1; exact fun σ2 ι2 H2 y L2 Sl2 => ⟨ι2, ρ2, S2, L2, Sl2, q1.ext y⟩
      | bk ρ2 S2 => simp only [r] at q1; exact q1
      | rt d S2 => simp only [r] at q1; exact q1
      | exc c fs ρ2 S2 => simp only [r] at q1; exact q1
      | bad => simp only [r] at q1; exact q1
end

abbrev Fn := List D → Store → R D
def spF (K : PySem.W.Frag) (CA : ClsAt) (n : Nat) (fn : Fn) : Sp := fun vs H Q E => vs.length = n ∧ ∃ ι ds S, Link K ι S H ∧ RelL ι H ds vs ∧ match fn ds S with
  | .ok d S' => ∀ v ι' H', Ext ι H ι' H' → Link K ι' S' H' → Rel ι' H' d v → Q v H'
  | .exc c fs S' => ∀ cls dd ι' H', Ext ι H ι' H' → Link K ι' S' H' → ExcR CA ι' H' c fs cls dd → E cls dd H'
  | .bad => False
section
variable {X : Cx} {w : Wd} {pos : Pos}
theorem sp_of {n : Nat} {fn : Fn} {ι : List Addr} {H : Hp} {S : Store} {ds : List D} {vs : List V} {σ : L2.St} {Q : VK} (hn : vs.length = n) (L : Link w.K ι S H) (r : RelL ι H ds vs) (p : PostE w ι H σ Q (fn ds S)) : spF w.K w.CA n fn vs H Q (WE w.W σ) := by
  refine ⟨hn, ι, ds, S, L, r, ?_⟩
  cases z : fn ds S with
  | ok d S' => rw [z] at p; exact p
  | exc c fs S' => rw [z] at p; exact p
  | bad => rw [z] at p; exact p
/-- a def's call: so many arguments -/
def eFn (n : Nat) (fn : Fn) (f : AF) : EF := fun ρ S => (f ρ S).bind fun ds S1 => if ds.length = n then fn ds S1 else .bad
theorem se_fn {k : Nat} {f : Addr} {fd : FuncData} {ps : List Str} {n : Nat} {fn : Fn} {x : Str} {p : Pos} {e : Expr} {es : List Expr} {fa : AF} (F : FnOk X.prog X.w X.K X.mg X.base (L2.CX X.prog X.w) k f fd ps (spF w.K w.CA n fn)) (hr : Room k X.A) (hg : Gl X x) (hm : X.mg x = some (.ref f)) (hk : PySem.W.keepIn X.K (.ref f) = true) (hb : Binds X.K fd ps []) (tk : Takes X w.W)
    (ha : PA X (e :: es) (tA w fa)) (hdb : (x == ("__debug__" : Str)) = false := by decide) (he : starEach (e :: es) X.env = (false, eval e X.env) :: starEach es X.env := by rfl) (hpl : (backTo pos (starEach es X.env)).any (·.1) = false := by rfl) :
    PE X (.Call (.Name x p) (e :: es) [] pos) (tE w (eFn n fn fa)) := by
  refine PE_imp (pe_callS F hr hg hm hk hb (fun σ => passAt tk σ) ha hdb he hpl) fun σ H Q ⟨ι, ρ, S, L, Sl, q⟩ => ?_
  refine ⟨ι, ρ, S, L, Sl, PostA.thenE q fun ds S1 q1 vs ι1 H1 x1 L1 r1 => ?_⟩
  split at q1
  · rename_i hz
    exact sp_of (by rw [r1.length]; exact hz) L1 r1 (q1.ext x1)
  · exact q1.elim
/-- a def's promise from its body -/
def runDef (N : Nat) (g : SF) : Fn := fun ds S => match g (ds.map some ++ List.replicate (N - ds.length) none) S with
  | .nx _ S' => .ok .non S'
  | .rt d S' => .ok d S'
  | .exc c fs _ S' => .exc c fs S'
  | _ => .bad
theorem start_slots {ι : List Addr} {H : Hp} : ∀ {ds : List D} {vs : List V} {N : List Str}, RelL ι H ds vs → vs.length ≤ N.length → Slots ι H (ds.map some ++ List.replicate (N.length - ds.length) none) (L2.start N vs) := by
  intro ds vs N r hl
  have e := r.length
  refine ⟨by unfold L2.start; simp [e], fun i d h => ?_⟩
  unfold L2.start
  by_cases hi : i < ds.length
  · rw [List.getElem?_append_left (by simpa using hi)] at h
    have h' : ds[i]? = some d := by simpa using h
    obtain ⟨v, e1, e2⟩ := r.get h'
    exact ⟨v, by rw [List.getElem?_append_left (by simpa [e] using hi)]; simp [e1], e2⟩
  · rw [List.getElem?_append_right (by simpa using hi)] at h
    rw [List.getElem?_replicate] at h
    split at h <;> cases h
theorem fn_ok {P : Program} {wd : World} {K : PySem.W.Frag} {mg : Str → Option Value} {base : Heap} {CA : ClsAt} {x qual : Str} {st : Stmt} {f : Addr} {fd : FuncData} {N ps : List Str} {k : Nat} {g : SF} (F : Fun K x qual st f fd) (Sc : FnScope N ps (defScope st)) (hps : ps.length ≤ N.length)
    (hbody : ∀ (cdv : Value) (A : Around) (outer : List PySem.Env) (s : Shared) (H : Hp) (E : XK), Room k (A.deeper (envOfC qual (defScope st) s.heap.objs.size f cdv)) →
      PSs (cxOf (L2.CX P wd) P wd K mg base N qual (defScope st) f cdv A outer s H E) (defBody st) (tS ⟨K, CA, fun cls d _ H => E cls d H⟩ g)) :
    FnOk P wd K mg base (L2.CX P wd) (k + 1) f fd ps (spF K CA ps.length (runDef N.length g)) := by
  refine F.okX Sc (fun vs H Q E h => h.1) fun cdv A outer s H vs Q E hr h => ⟨_, hbody cdv A outer s H E hr, ?_⟩
  obtain ⟨hn, ι, ds, S, L, r, p⟩ := h
  refine ⟨ι, _, S, L, start_slots r (by omega), ?_⟩
  unfold runDef at p
  cases z : g (ds.map some ++ List.replicate (N.length - ds.length) none) S with
  | nx ρ' S' => simp only [z] at p; exact fun σ' ι' H' x' L' Sl' => p .non ι' H' x' L' (rel_non.mpr rfl)
  | rt d S' => simp only [z] at p; exact p
  | exc c fs ρ' S' => simp only [z] at p; exact fun cls dd σ' ι' H' x' L' _ e => p cls dd ι' H' x' L' e
  | bk ρ' S' => simp only [z] at p
  | ct ρ' S' => simp only [z] at p
  | bad => simp only [z] at p
end
end Z

set_option Elab.async false
set_option linter.all false
set_option maxRecDepth 100000
set_option maxHeartbeats 1000000
namespace Z
variable [Tabs]
open PySem L2 PySem.Spec PyProof.Rows

section
variable {X : Cx} {w : Wd} {pos : Pos} {a b c : Expr} {fa fb fc : EF}

def dIx (n : Nat) (i : Int) : Option Nat := if 0 ≤ i then if i < (n : Int) then some i.toNat else none else if -(n : Int) ≤ i then some (i + n).toNat else none
theorem dIx_eq (n : Nat) (i : Int) : dIx n i = ixN n i := rfl
def dAt {α : Type} (xs : List α) (i : Int) : Option α := (dIx xs.length i).bind fun j => xs[j]?
theorem RelL.atI {ι : List Addr} {H : Hp} {xs : List D} {vs : List V} {i : Int} {x : D} (r : RelL ι H xs vs) (e : dAt xs i = some x) : ∃ v, L2.atI vs i = some v ∧ Rel ι H x v := by
  unfold dAt at e
  unfold L2.atI
  rw [← dIx_eq, r.length]
  cases h : dIx xs.length i with
  | none => rw [h] at e; cases e
  | some j => rw [h] at e; exact r.get e
/-- an item of a list, the script, a tuple -/
def gIx : D → D → Store → R D
  | x, .int i, S => match asQ S x with
    | some xs => (match dAt xs i with
      | some d => .ok d S
      | none => .bad)
    | none => .bad
  | _, _, _ => .bad
theorem rule_ix (K : PySem.W.Frag) (hK : K = w.K) : RuleOp w (fun x y H Q => rIxL K x y H Q ∨ rIxT K x y H Q) gIx := by
  subst hK
  intro ι S H σ x y v u Q L rx ry p
  cases y with
  | non => cases x <;> exact p.elim
  | bl _ => cases x <;> exact p.elim
  | str _ => cases x <;> exact p.elim
  | tup _ => cases x <;> exact p.elim
  | ob _ => cases x <;> exact p.elim
  | int i =>
  rw [rel_int] at ry; subst ry
  unfold gIx at p
  cases e : asQ S x with
  | none => simp only [e] at p; exact p.elim
  | some xs =>
    simp only [e] at p
    obtain ⟨q, vs, rfl, hs, l⟩ := L.seq e rx
    cases e2 : dAt xs i with
    | none => simp only [e2] at p; exact p.elim
    | some d =>
      simp only [e2] at p
      obtain ⟨v, h1, h2⟩ := l.atI e2
      rcases hs with hs | hs
      · exact .inl ⟨q, vs, i, v, rfl, rfl, hs, h1, p v ι H (.refl _ _) L h2⟩
      · exact .inr ⟨q, vs, i, v, rfl, rfl, hs, h1, p v ι H (.refl _ _) L h2⟩
theorem IxR.or {r r' : R2} (h : IxR X r) (h' : IxR X r') : IxR X (fun x y H Q => r x y H Q ∨ r' x y H Q) := by
  intro value slice pins s σ H x y v u Q I rx ry p q
  rcases p with p | p
  · exact h value slice pins s σ H x y v u Q I rx ry p q
  · exact h' value slice pins s σ H x y v u Q I rx ry p q
theorem se_ix (ha : PE X a (tE w fa)) (hb : PE X b (tE w fb)) (hs : PlainIx b := by intro _ _; rfl) (hK : X.K = w.K := by rfl) : PE X (.Subscript a b pos) (tE w (eOp gIx fa fb)) :=
  PE_imp (pe_ix (ix_list.or ix_tup) ha hb hs) fun σ H Q h => op_use (rule_ix X.K hK) h

abbrev PF := Rho → Store → R (Option Int)
def PostP (w : Wd) (ι : List Addr) (H : Hp) (σ : L2.St) (Q : Option Int → Hp → Prop) : R (Option Int) → Prop
  | .ok d S' => ∀ ι' H', Ext ι H ι' H' → Link w.K ι' S' H' → Q d H'
  | .exc c fs S' => ∀ cls dd ι' H', Ext ι H ι' H' → Link w.K ι' S' H' → ExcR w.CA ι' H' c fs cls dd → w.W cls dd σ H'
  | .bad => False
def tP (w : Wd) (f : PF) : TO := fun σ H Q => ∃ ι ρ S, Link w.K ι S H ∧ Slots ι H ρ σ ∧ PostP w ι H σ Q (f ρ S)
theorem PO_imp {e : Option Expr} {t t' : TO} (h : PO X e t) (i : ∀ σ H Q, t' σ H Q → t σ H Q) : PO X e t' := ⟨fun pins s σ H Q I q => h.run pins s σ H Q I (i σ H Q q)⟩
def pNone : PF := fun _ S => .ok none S
def pSome (f : EF) : PF := fun ρ S => (f ρ S).bind fun d S1 => match d with
  | .int i => .ok (some i) S1
  | _ => .bad
theorem sp_none : PO X none (tP w pNone) := PO_imp po_none fun σ H Q ⟨ι, ρ, S, L, Sl, p⟩ => p ι H (.refl _ _) L
theorem sp_some (ha : PE X a (tE w fa)) : PO X (some a) (tP w (pSome fa)) := by
  refine PO_imp (po_some ha) fun σ H Q ⟨ι, ρ, S, L, Sl, p⟩ => ⟨ι, ρ, S, L, Sl, ?_⟩
  unfold pSome at p
  cases e : fa ρ S with
  | bad => rw [e] at p; exact p
  | exc c fs S' => rw [e] at p; exact p
  | ok d S' =>
    rw [e] at p
    intro v ι' H' x L' r
    cases d <;> try exact p.elim
    rw [rel_int] at r; subst r
    exact ⟨_, rfl, p ι' H' x L'⟩
def dSx (n d : Nat) : Option Int → Nat
  | none => d
  | some v => if v < 0 then (v + (n : Int)).toNat else min v.toNat n
theorem dSx_eq (n d : Nat) (x : Option Int) : dSx n d x = HT.sIx n d x := by cases x <;> rfl
def dCut (xs : List D) (lo hi : Option Int) : List D := (xs.drop (dSx xs.length 0 lo)).take (dSx xs.length xs.length hi - dSx xs.length 0 lo)
theorem RelL.cut {ι : List Addr} {H : Hp} {xs : List D} {vs : List V} (r : RelL ι H xs vs) (lo hi : Option Int) : RelL ι H (dCut xs lo hi) (cutV vs lo hi) := by
  unfold dCut cutV
  rw [← dSx_eq, ← dSx_eq, r.length]
  exact (r.drop _).take _
def gSl : D → Option Int → Option Int → Store → R D
  | .tup xs, lo, hi, S => .ok (.tup (dCut xs lo hi)) S
  | .ob n, lo, hi, S => match asL S (.ob n) with
    | some xs => newL S (dCut xs lo hi)
    | none => .bad
  | _, _, _, _ => .bad
def eSl (f : EF) (p q : PF) : EF := fun ρ S => (f ρ S).bind fun x S1 => (p ρ S1).bind fun lo S2 => (q ρ S2).bind fun hi S3 => gSl x lo hi S3
theorem SlR.or {r r' : V → Option Int → Option Int → Hp → VK → Prop} (h : SlR X r) (h' : SlR X r') : SlR X (fun x lo hi H Q => r x lo hi H Q ∨ r' x lo hi H Q) := by
  unfold SlR at *
  intros
  rename_i z
  rcases z with z | z
  · apply h <;> assumption
  · apply h' <;> assumption
theorem PostE.thenP {ι : List Addr} {H : Hp} {σ : L2.St} {Q : Option Int → Hp → Prop} {Q' : VK} {r : R (Option Int)} {k : Option Int → Store → R D} (h : PostE w ι H σ Q' (r.bind k))
    (q : ∀ d S', PostE w ι H σ Q' (k d S') → ∀ ι' H', Ext ι H ι' H' → Link w.K ι' S' H' → Q d H') : PostP w ι H σ Q r := by
  cases r with
  | ok d S => exact fun ι' H' y L => q d S h ι' H' y L
  | exc c fs S => exact h
  | bad => exact h
theorem se_sl {lo hi : Option Expr} {p2 : Pos} {fp fq : PF} (ha : PE X a (tE w fa)) (hl : PO X lo (tP w fp)) (hh : PO X hi (tP w fq)) (hK : X.K = w.K := by rfl) : PE X (.Subscript a (.Slice lo hi none p2) pos) (tE w (eSl fa fp fq)) := by
  refine PE_imp (pe_slice (sl_list.or sl_tupA) ha hl hh) fun σ H Q ⟨ι, ρ, S, L, Sl, p⟩ => ?_
  refine ⟨ι, ρ, S, L, Sl, PostE.thenE p fun d S1 p1 v ι1 H1 x1 L1 r1 => ?_⟩
  refine ⟨ι1, ρ, S1, L1, Sl.ext x1, PostE.thenP (p1.ext x1) fun lo S2 p2 ι2 H2 x2 L2 => ?_⟩
  refine ⟨ι2, ρ, S2, L2, (Sl.ext x1).ext x2, PostE.thenP (p2.ext x2) fun hi S3 p3 ι3 H3 x3 L3 => ?_⟩
  replace p3 := p3.ext x3
  have r3 := (r1.ext x2).ext x3
  cases d <;> try exact p3.elim
  · rename_i xs
    obtain ⟨q, vs, rfl, h, l⟩ := rel_tup.mp r3
    refine .inr ⟨q, vs, rfl, SqT.of h, fun ⟨e1, e2⟩ => ?_, fun _ => post_tup L3 (l.cut lo hi) p3⟩
    have : dCut xs lo hi = xs := by
      unfold dCut
      rw [dSx_eq, dSx_eq, ← l.length, e1, e2, l.length]
      simp
    have p4 : PostE w ι3 H3 σ Q (.ok (.tup (dCut xs lo hi)) S3) := p3
    rw [this] at p4
    exact p4 _ ι3 H3 (.refl _ _) L3 r3
  · rename_i n
    unfold gSl at p3
    cases e : asL S3 (.ob n) with
    | none => simp only [e] at p3; exact p3.elim
    | some xs =>
      simp only [e] at p3
      obtain ⟨q, vs, rfl, h, l⟩ := L3.seqL e r3
      exact .inl ⟨q, vs, rfl, by rw [hK]; exact h, post_newL L3 (l.cut lo hi) p3⟩

/-- o[i] = value, o a list: value first -/
def sPut (f fo fi : EF) : SF := fun ρ S => (f ρ S).to ρ fun d S1 => (fo ρ S1).to ρ fun o S2 => (fi ρ S2).to ρ fun i S3 => match o, i with
  | .ob n, .int k => (match S3[n]? with
    | some (.lst xs) => (match dIx xs.length k with
      | some j => .nx ρ (S3.set n (.lst (xs.set j d)))
      | none => .bad)
    | _ => .bad)
  | _, _ => .bad
theorem s_put {e : Expr} {f : EF} {p' : Pos} (he : PE X e (tE w f)) (ha : PE X a (tE w fa)) (hb : PE X b (tE w fb))
    (hs : swapsWithSole [.Subscript a b p'] e pos.line X.env = pure false := by rfl) (hw : swappedStores [.Subscript a b p'] e X.env = pure none := by rfl)
    (h1 : (assignEach [.Subscript a b p'] X.env).map (·.2) = [assign (.Subscript a b p') X.env] := by rfl)
    (h2 : ∀ (v : Value), assign (.Subscript a b p') X.env v = (do
      let ov ← holding [v] (eval a X.env)
      let iv ← holding [v, ov] (eval b X.env)
      standAt p'
      holding [v, ov, iv] (setItem ov iv v)
      release [v, ov, iv] []) := by intro _; rfl) :
    PS X (.Assign [.Subscript a b p'] e pos) (tS w (sPut f fa fb)) := by
  refine PS_imp (ps_asg he (pg_sub ha hb set_list h2) hs hw h1) fun E σ H ⟨ι, ρ, S, L, Sl, p⟩ => ?_
  refine ⟨ι, ρ, S, L, Sl, PostE.toS Sl p fun d S1 p1 v ι1 H1 x1 L1 r1 => ?_⟩
  refine ⟨ι1, ρ, S1, L1, Sl.ext x1, PostE.toS (Sl.ext x1) (p1.ext x1) fun o S2 p2 u ι2 H2 x2 L2 r2 => ?_⟩
  refine ⟨ι2, ρ, S2, L2, (Sl.ext x1).ext x2, PostE.toS ((Sl.ext x1).ext x2) (p2.ext x2) fun i S3 p3 t ι3 H3 x3 L3 r3 => ?_⟩
  replace p3 := p3.ext x3
  have r2' := r2.ext x3
  have r1' := (r1.ext x2).ext x3
  cases o <;> try exact p3.elim
  rename_i n
  cases i <;> try exact p3.elim
  rename_i k
  rw [rel_int] at r3; subst r3
  dsimp only at p3
  cases e1 : S3[n]? with
  | none => rw [e1] at p3; exact p3.elim
  | some o1 =>
    rw [e1] at p3
    cases o1 <;> try exact p3.elim
    rename_i xs
    dsimp only at p3
    obtain ⟨q, vs, rfl, hq, h, l⟩ := L3.lst e1 r2'
    cases e2 : dIx xs.length k with
    | none => rw [e2] at p3; exact p3.elim
    | some j =>
      rw [e2] at p3
      refine ⟨q, vs, k, j, rfl, rfl, h, by rw [← dIx_eq, l.length]; exact e2, ?_⟩
      have xp : Ext ι3 H3 ι3 (upd H3 q (.lst (vs.set j v))) := .put hq h rfl
      exact p3 σ ι3 _ xp (L3.put hq h rfl ⟨_, upd_same, (RelL.set r1' j l).ext xp⟩) (((Sl.ext x1).ext x2).ext x3 |>.ext xp)

def keyD : D → Option Key
  | .int i => some (.inl i)
  | .str x => some (.inr x)
  | _ => none
theorem keyD_rel {ι : List Addr} {H : Hp} {d : D} {k : Key} {v : V} (e : keyD d = some k) (r : Rel ι H d v) : v = kV k := by
  cases d <;> simp only [keyD] at e <;> cases e
  · exact rel_int.mp r
  · exact rel_str.mp r
def dVal (kvs : List (Key × D)) (k : Key) : Option D := match kvs with
  | [] => none
  | (k', d) :: r => if k' = k then some d else dVal r k
theorem RelK.val {ι : List Addr} {H : Hp} {k : Key} : ∀ {kvs : List (Key × D)} {ws : List (Key × V)}, RelK ι H kvs ws → match dVal kvs k with
    | some d => ∃ v, valV ws k = some v ∧ Rel ι H d v
    | none => valV ws k = none
  | [], _, r => by simp only [RelK] at r; subst r; simp [dVal, valV]
  | (k', d) :: r, _, h => by
    simp only [RelK] at h
    obtain ⟨v, t, rfl, h1, h2⟩ := h
    unfold dVal
    by_cases e : k' = k
    · subst e
      simp only [if_true]
      exact ⟨v, by simp [valV], h1⟩
    · simp only [if_neg e]
      have hv : valV ((k', v) :: t) k = valV t k := by simp [valV, e]
      rw [hv]
      exact RelK.val h2
def dPutK (kvs : List (Key × D)) (k : Key) (d : D) : List (Key × D) := match kvs with
  | [] => [(k, d)]
  | (k', x) :: r => if k' = k then (k', d) :: (if r.any fun kv => decide (kv.1 = k) then dPutK r k d else r) else (k', x) :: dPutK r k d
theorem RelK.keys {ι : List Addr} {H : Hp} : ∀ {kvs : List (Key × D)} {ws : List (Key × V)}, RelK ι H kvs ws → ws.map (·.1) = kvs.map (·.1)
  | [], _, r => by simp only [RelK] at r; subst r; rfl
  | (k', d) :: r, _, h => by
    simp only [RelK] at h
    obtain ⟨v, t, rfl, h1, h2⟩ := h
    simp [RelK.keys h2]
theorem RelK.length {ι : List Addr} {H : Hp} {kvs : List (Key × D)} {ws : List (Key × V)} (r : RelK ι H kvs ws) : ws.length = kvs.length := by
  have := congrArg List.length r.keys
  simpa using this
theorem any_keys {α : Type} (l : List (Key × α)) (k : Key) : (l.any fun kv => decide (kv.1 = k)) = (l.map (·.1)).any fun k' => decide (k' = k) := by
  induction l with
  | nil => rfl
  | cons a l ih => simp [ih]
/-- a dict that is stored to: in its place, or behind -/
def dSetK (kvs : List (Key × D)) (k : Key) (d : D) : List (Key × D) := if (kvs.any fun kv => decide (kv.1 = k)) = true then kvs.map (fun kv => if kv.1 = k then (kv.1, d) else kv) else kvs ++ [(k, d)]
theorem RelK.append {ι : List Addr} {H : Hp} : ∀ {xs ys : List (Key × D)} {vs ws : List (Key × V)}, RelK ι H xs vs → RelK ι H ys ws → RelK ι H (xs ++ ys) (vs ++ ws)
  | [], ys, _, ws, r, s => by simp only [RelK] at r; subst r; exact s
  | (k, x) :: xs, ys, _, ws, r, s => by
    simp only [RelK] at r
    obtain ⟨v, t, rfl, g, l⟩ := r
    simp only [List.cons_append, RelK]
    exact ⟨v, t ++ ws, rfl, g, RelK.append l s⟩
theorem RelK.mapPut {ι : List Addr} {H : Hp} {k : Key} {d : D} {v : V} (h : Rel ι H d v) : ∀ {kvs : List (Key × D)} {ws : List (Key × V)}, RelK ι H kvs ws → RelK ι H (kvs.map fun kv => if kv.1 = k then (kv.1, d) else kv) (ws.map fun kv => if kv.1 = k then (kv.1, v) else kv)
  | [], _, r => by simp only [RelK] at r; subst r; simp [RelK]
  | (k', x) :: kvs, _, r => by
    simp only [RelK] at r
    obtain ⟨u, t, rfl, g, l⟩ := r
    simp only [List.map_cons]
    by_cases e : k' = k
    · simp only [if_pos e, RelK]
      exact ⟨v, _, rfl, h, RelK.mapPut h l⟩
    · simp only [if_neg e, RelK]
      exact ⟨u, _, rfl, g, RelK.mapPut h l⟩
theorem RelK.put {ι : List Addr} {H : Hp} {k : Key} {d : D} {v : V} (h : Rel ι H d v) {kvs : List (Key × D)} {ws : List (Key × V)} (r : RelK ι H kvs ws) : RelK ι H (dSetK kvs k d) (putK ws k v) := by
  unfold dSetK putK
  rw [any_keys, any_keys, r.keys]
  split
  · exact RelK.mapPut h r
  · exact r.append (by simp only [RelK]; exact ⟨v, [], rfl, h, rfl⟩)
def asK (S : Store) : D → Option (List (Key × D))
  | .ob n => match S[n]? with
    | some (.dct kvs) => some kvs
    | _ => none
  | _ => none
theorem Link.asK {ι : List Addr} {S : Store} {H : Hp} {K : PySem.W.Frag} (L : Link K ι S H) {d : D} {kvs : List (Key × D)} {v : V} (e : asK S d = some kvs) (r : Rel ι H d v) : ∃ n q ws, d = .ob n ∧ v = .ref q ∧ ι[n]? = some q ∧ S[n]? = some (.dct kvs) ∧ H q = some (.dK ws) ∧ RelK ι H kvs ws := by
  cases d <;> simp only [Z.asK] at e <;> try cases e
  rename_i n
  cases q : S[n]? with
  | none => rw [q] at e; cases e
  | some o =>
    rw [q] at e
    cases o <;> try cases e
    obtain ⟨p, ws, h1, h2, h3, h4⟩ := L.dct q r
    exact ⟨n, p, ws, rfl, h1, h2, q, h3, h4⟩
def eDGet (fd fk : EF) : EF := fun ρ S => (fd ρ S).bind fun x S1 => (fk ρ S1).bind fun y S2 => match asK S2 x, keyD y with
  | some kvs, some k => (match dVal kvs k with
    | some d => .ok d S2
    | none => .bad)
  | _, _ => .bad
theorem se_dget (hu : X.A.units + 1 < cLine) (ha : PE X a (tE w fa)) (hb : PE X b (tE w fb)) (hs : NoSl b := by intro _ _; rfl) : PE X (.Subscript a b pos) (tE w (eDGet fa fb)) := by
  refine PE_imp (pe_dget hu ha hb hs) fun σ H Q ⟨ι, ρ, S, L, Sl, p⟩ => ?_
  refine ⟨ι, ρ, S, L, Sl, PostE.thenE p fun d S1 p1 v ι1 H1 x1 L1 r1 => ?_⟩
  refine ⟨ι1, ρ, S1, L1, Sl.ext x1, PostE.thenE (p1.ext x1) fun e S2 p2 u ι2 H2 x2 L2 r2 => ?_⟩
  replace p2 := p2.ext x2
  cases e1 : asK S2 d with
  | none => simp only [e1] at p2; exact p2.elim
  | some kvs =>
    cases e2 : keyD e with
    | none => simp only [e1, e2] at p2; exact p2.elim
    | some k =>
      simp only [e1, e2] at p2
      obtain ⟨n, q, ws, rfl, rfl, hn, hS, hq, l⟩ := L2.asK e1 (r1.ext x2)
      have hv := l.val (k := k)
      cases e3 : dVal kvs k with
      | none => simp only [e3] at p2; exact p2.elim
      | some d' =>
        simp only [e3] at p2 hv
        obtain ⟨v', h1, h2⟩ := hv
        exact ⟨q, v', rfl, by rw [keyD_rel e2 r2, ← h1]; exact DGet.k hq, p2 v' ι2 H2 (.refl _ _) L2 h2⟩
/-- d[k] = value -/
def sDPutZ (f fd fk : EF) : SF := fun ρ S => (f ρ S).to ρ fun d S1 => (fd ρ S1).to ρ fun x S2 => (fk ρ S2).to ρ fun y S3 => match x, keyD y with
  | .ob n, some k => (match S3[n]? with
    | some (.dct kvs) => if kvs.length < LIM then .nx ρ (S3.set n (.dct (dSetK kvs k d))) else .bad
    | _ => .bad)
  | _, _ => .bad
theorem s_dput {e : Expr} {f : EF} {p' : Pos} (hu : X.A.units + 1 < cLine) (he : PE X e (tE w f)) (ha : PE X a (tE w fa)) (hb : PE X b (tE w fb)) (hs : swapsWith e (some (.Subscript a b p')) pos.line X.env = pure false := by rfl) :
    PS X (.Assign [.Subscript a b p'] e pos) (tS w (sDPutZ f fa fb)) := by
  refine PS_imp (ps_dput hu ha hb he hs) fun E σ H ⟨ι, ρ, S, L, Sl, p⟩ => ?_
  refine ⟨ι, ρ, S, L, Sl, PostE.toS Sl p fun d S1 p1 v ι1 H1 x1 L1 r1 => ?_⟩
  refine ⟨ι1, ρ, S1, L1, Sl.ext x1, PostE.toS (Sl.ext x1) (p1.ext x1) fun o S2 p2 u ι2 H2 x2 L2 r2 => ?_⟩
  refine ⟨ι2, ρ, S2, L2, (Sl.ext x1).ext x2, PostE.toS ((Sl.ext x1).ext x2) (p2.ext x2) fun i S3 p3 t ι3 H3 x3 L3 r3 => ?_⟩
  replace p3 := p3.ext x3
  have r2' := r2.ext x3
  have r1' := (r1.ext x2).ext x3
  cases o <;> try exact p3.elim
  rename_i n
  cases e2 : keyD i with
  | none => simp only [e2] at p3; exact p3.elim
  | some k =>
  simp only [e2] at p3
  cases e1 : S3[n]? with
  | none => rw [e1] at p3; exact p3.elim
  | some o1 =>
    rw [e1] at p3
    cases o1 <;> try exact p3.elim
    rename_i kvs
    dsimp only at p3
    obtain ⟨q, ws, rfl, hq, h, l⟩ := L3.dct e1 r2'
    by_cases hz : kvs.length < LIM
    · rw [if_pos hz] at p3
      have xp : Ext ι3 H3 ι3 (upd H3 q (.dK (putK ws k v))) := .put hq h rfl
      refine ⟨q, _, rfl, by rw [keyD_rel e2 r3]; exact DPut.k h (by rw [lim_eq, l.length]; exact hz), ?_⟩
      refine p3 σ ι3 _ xp (L3.put hq h rfl ⟨_, upd_same, ?_⟩) (((Sl.ext x1).ext x2).ext x3 |>.ext xp)
      exact (RelK.put r1' l).ext xp
    · rw [if_neg hz] at p3; exact p3.elim
end
end Z

set_option Elab.async false
set_option linter.all false
set_option maxRecDepth 100000
set_option maxHeartbeats 1000000
namespace Z
variable [Tabs]
open PySem L2 PySem.Spec PyProof.Rows

section
variable {X : Cx} {w : Wd} {pos : Pos} {a b c : Expr} {fa fb fc : EF}

def pyAll (f : D → Option PyData) : List D → Option (List PyData)
  | [] => some []
  | x :: r => match f x, pyAll f r with
    | some p, some q => some (p :: q)
    | _, _ => none
def pyD : Nat → Store → D → Option PyData
  | _, _, .non => some .none
  | _, _, .bl b => some (.bool b)
  | _, _, .int i => some (.int i)
  | _, _, .str x => some (.str x)
  | 0, _, .tup _ => none
  | 0, _, .ob _ => none
  | n + 1, S, .tup xs => (pyAll (pyD n S) xs).map .tuple
  | n + 1, S, .ob m => match asL S (.ob m) with
    | some xs => (pyAll (pyD n S) xs).map .list
    | none => none
theorem py_all {K : PySem.W.Frag} {ι : List Addr} {H : Hp} {f : D → Option PyData} (hf : ∀ d p v, f d = some p → Rel ι H d v → Dp K H v p) : ∀ {xs : List D} {ps : List PyData} {vs : List V}, pyAll f xs = some ps → RelL ι H xs vs → DpAll K H vs ps
  | [], ps, vs, e, r => by
    simp only [pyAll] at e; cases e
    rw [relL_nil.mp r]; exact .nil
  | x :: xs, ps, vs, e, r => by
    obtain ⟨v, t, rfl, r1, r2⟩ := relL_cons.mp r
    simp only [pyAll] at e
    cases e1 : f x with
    | none => rw [e1] at e; cases e
    | some p =>
      cases e2 : pyAll f xs with
      | none => rw [e1, e2] at e; cases e
      | some q =>
        rw [e1, e2] at e; cases e
        exact .cons (hf x p v e1 r1) (py_all hf e2 r2)
theorem py_dp {K : PySem.W.Frag} {ι : List Addr} {S : Store} {H : Hp} (L : Link K ι S H) : ∀ (n : Nat) (d : D) (p : PyData) (v : V), pyD n S d = some p → Rel ι H d v → Dp K H v p
  | n, .non, p, v, e, r => by cases n <;> (simp only [pyD] at e; cases e; rw [rel_non.mp r]; exact .non)
  | n, .bl b, p, v, e, r => by cases n <;> (simp only [pyD] at e; cases e; rw [rel_bl.mp r]; exact .bl b)
  | n, .int b, p, v, e, r => by cases n <;> (simp only [pyD] at e; cases e; rw [rel_int.mp r]; exact .int b)
  | n, .str b, p, v, e, r => by cases n <;> (simp only [pyD] at e; cases e; rw [rel_str.mp r]; exact .str b)
  | 0, .tup _, p, v, e, r => by simp only [pyD] at e; cases e
  | 0, .ob _, p, v, e, r => by simp only [pyD] at e; cases e
  | n + 1, .tup xs, p, v, e, r => by
    simp only [pyD] at e
    cases q : pyAll (pyD n S) xs with
    | none => rw [q] at e; cases e
    | some ps =>
      rw [q] at e; cases e
      obtain ⟨z, vs, rfl, h, l⟩ := rel_tup.mp r
      exact .tup (SqT.of h) (py_all (fun d p v => py_dp L n d p v) q l)
  | n + 1, .ob m, p, v, e, r => by
    simp only [pyD] at e
    cases e1 : asL S (.ob m) with
    | none => rw [e1] at e; cases e
    | some xs =>
      rw [e1] at e
      dsimp only at e
      cases q : pyAll (pyD n S) xs with
      | none => rw [q] at e; cases e
      | some ps =>
        rw [q] at e; cases e
        obtain ⟨z, vs, rfl, h, l⟩ := L.seqL e1 r
        exact .lst h (py_all (fun d p v => py_dp L n d p v) q l)
abbrev FUEL : Nat := 12
def gEqP (neg : Bool) : D → D → Store → R D := fun x y S => match pyD FUEL S x, pyD FUEL S y with
  | some p, some q => if SeqAt.shaped p = true ∧ SeqAt.shaped q = true then .ok (.bl (if neg = true then !p.eqv q else p.eqv q)) S else .bad
  | _, _ => .bad
/-- == and !=: texts by themselves, all other data as such -/
def gEqD (neg : Bool) : D → D → Store → R D
  | .str a, .str b, S => .ok (.bl (if neg = true then !decide (a = b) else decide (a = b))) S
  | x, y, S => gEqP neg x y S
theorem eqP_use {K : PySem.W.Frag} {neg : Bool} {ι : List Addr} {S : Store} {H : Hp} {σ : L2.St} {x y : D} {v u : V} {Q : VK} (L : Link w.K ι S H) (rx : Rel ι H x v) (ry : Rel ι H y u) (p : PostE w ι H σ Q (gEqP neg x y S)) :
    ∃ d e, Dp w.K H v d ∧ Dp w.K H u e ∧ SeqAt.shaped d = true ∧ SeqAt.shaped e = true ∧ Q (.bl (if neg = true then !d.eqv e else d.eqv e)) H := by
  unfold gEqP at p
  cases e1 : pyD FUEL S x with
  | none => simp only [e1] at p; exact p.elim
  | some d =>
    cases e2 : pyD FUEL S y with
    | none => simp only [e1, e2] at p; exact p.elim
    | some e =>
      simp only [e1, e2] at p
      split at p
      · rename_i hz
        exact ⟨d, e, py_dp L _ _ _ _ e1 rx, py_dp L _ _ _ _ e2 ry, hz.1, hz.2, p _ ι H (.refl _ _) L (rel_bl.mpr rfl)⟩
      · exact p.elim
theorem eqD_cases (neg : Bool) (x y : D) (S : Store) : (∃ a b, x = .str a ∧ y = .str b) ∨ gEqD neg x y S = gEqP neg x y S := by
  cases x <;> cases y <;> first | exact .inr rfl | exact .inl ⟨_, _, rfl, rfl⟩
theorem rule_eqD (K : PySem.W.Frag) (hK : K = w.K) : RuleOp w (fun x y H Q => rEq x y H Q ∨ rEqD K x y H Q) (gEqD false) := by
  subst hK
  intro ι S H σ x y v u Q L rx ry p
  rcases eqD_cases false x y S with ⟨a, b, rfl, rfl⟩ | e
  · rw [rel_str] at rx ry; subst rx; subst ry
    have p' : PostE w ι H σ Q (.ok (.bl (decide (a = b))) S) := p
    refine .inl ⟨rfl, ?_⟩
    have e : decide (V.str a = V.str b) = decide (a = b) := by simp
    rw [e]
    exact p' _ ι H (.refl _ _) L (rel_bl.mpr rfl)
  · rw [e] at p
    exact .inr (eqP_use (K := w.K) L rx ry p)
theorem rule_neD (K : PySem.W.Frag) (hK : K = w.K) : RuleOp w (fun x y H Q => rNe x y H Q ∨ rNeD K x y H Q) (gEqD true) := by
  subst hK
  intro ι S H σ x y v u Q L rx ry p
  rcases eqD_cases true x y S with ⟨a, b, rfl, rfl⟩ | e
  · rw [rel_str] at rx ry; subst rx; subst ry
    have p' : PostE w ι H σ Q (.ok (.bl (!decide (a = b))) S) := p
    refine .inl ⟨rfl, ?_⟩
    have e : decide (V.str a = V.str b) = decide (a = b) := by simp
    rw [e]
    exact p' _ ι H (.refl _ _) L (rel_bl.mpr rfl)
  · rw [e] at p
    exact .inr (eqP_use (K := w.K) L rx ry p)
theorem eqD_bool {neg : Bool} : ∀ (x y : D) (S : Store) (d : D) (S' : Store), gEqD neg x y S = .ok d S' → ∃ k, d = .bl k := by
  intro x y S d S' e
  rcases eqD_cases neg x y S with ⟨a, b, rfl, rfl⟩ | q
  · cases e; exact ⟨_, rfl⟩
  · rw [q] at e
    unfold gEqP at e
    split at e
    · split at e
      · cases e; exact ⟨_, rfl⟩
      · cases e
    · cases e
theorem cr_eqD (hu : X.A.units + 64 < cLine) (hK : X.K = w.K := by rfl) : CmpRule X w .Eq (gEqD false) := ⟨⟨_, op_eq.or (op_eqD hu), rule_eqD _ hK⟩, eqD_bool⟩
theorem cr_neD (hu : X.A.units + 64 < cLine) (hK : X.K = w.K := by rfl) : CmpRule X w .NotEq (gEqD true) := ⟨⟨_, op_ne.or (op_neD hu), rule_neD _ hK⟩, eqD_bool⟩

def gRepr : List D → Store → R D := fun xs S => match xs with
  | [.int i] => if i.natAbs.log2 < 1920 then .ok (.str (toString i)) S else .bad
  | [.tup ds] => (match pyD FUEL S (.tup ds) with
    | some p => if p.showable = true ∧ p.hasDict = false ∧ p.depth ≤ 60 ∧ p.shown.length ≤ LIM then .ok (.str p.shown) S else .bad
    | none => .bad)
  | [.ob n] => (match pyD FUEL S (.ob n) with
    | some p => if p.showable = true ∧ p.hasDict = false ∧ p.depth ≤ 60 ∧ p.shown.length ≤ LIM then .ok (.str p.shown) S else .bad
    | none => .bad)
  | _ => .bad

def gLen : List D → Store → R D := fun xs S => match xs with
  | [.str x] => if x.length ≤ LIM then .ok (.int x.length) S else .bad
  | [d] => (match asQ S d with
    | some ys => .ok (.int ys.length) S
    | none => (match asK S d with
      | some kvs => .ok (.int kvs.length) S
      | none => .bad))
  | _ => .bad
theorem CallR.or {f : Value} {r r' : List V → Hp → VK → Prop} (h : CallR X f r) (h' : CallR X f r') : CallR X f (fun xs H Q => r xs H Q ∨ r' xs H Q) := by
  unfold CallR at *
  intros
  rename_i z
  rcases z with z | z
  · apply h <;> assumption
  · apply h' <;> assumption
theorem rel1 {ι : List Addr} {H : Hp} {d : D} {vs : List V} (r : RelL ι H [d] vs) : ∃ v, vs = [v] ∧ Rel ι H d v := by
  obtain ⟨v, t, rfl, r1, r2⟩ := relL_cons.mp r
  rw [relL_nil.mp r2]
  exact ⟨v, rfl, r1⟩
theorem rel2 {ι : List Addr} {H : Hp} {d e : D} {vs : List V} (r : RelL ι H [d, e] vs) : ∃ v u, vs = [v, u] ∧ Rel ι H d v ∧ Rel ι H e u := by
  obtain ⟨v, t, rfl, r1, r2⟩ := relL_cons.mp r
  obtain ⟨u, rfl, r3⟩ := rel1 r2
  exact ⟨v, u, rfl, r1, r3⟩
theorem rule_len (K : PySem.W.Frag) (hK : K = w.K) : RuleC w (fun xs H Q => (∃ x n, xs = [x] ∧ LenV K x H n ∧ Q (.int (n : Nat)) H) ∨ ∃ a kvs, xs = [.ref a] ∧ H a = some (.dK kvs) ∧ Q (.int (kvs.length : Nat)) H) gLen := by
  subst hK
  intro ι S H σ xs vs Q L r p
  unfold gLen at p
  split at p
  · obtain ⟨v, rfl, rv⟩ := rel1 r
    rw [rel_str] at rv; subst rv
    split at p
    · rename_i x hz
      exact .inl ⟨_, _, rfl, ⟨by rw [lim_eq]; exact hz, rfl⟩, p _ ι H (.refl _ _) L (rel_int.mpr rfl)⟩
    · exact p.elim
  · rename_i d hd
    obtain ⟨v, rfl, rv⟩ := rel1 r
    cases e : asQ S d with
    | some ys =>
      rw [e] at p
      obtain ⟨q, us, rfl, h, l⟩ := L.seq e rv
      refine .inl ⟨_, us.length, rfl, ?_, p _ ι H (.refl _ _) L (rel_int.mpr (by rw [l.length]))⟩
      rcases h with h | h
      · exact .inl ⟨us, h, rfl⟩
      · exact .inr ⟨us, h, rfl⟩
    | none =>
      rw [e] at p
      dsimp only at p
      cases e2 : asK S d with
      | none => rw [e2] at p; exact p.elim
      | some kvs =>
        rw [e2] at p
        obtain ⟨n, q, ws, rfl, rfl, h1, h2, h3, h4⟩ := L.asK e2 rv
        exact .inr ⟨q, ws, rfl, h3, p _ ι H (.refl _ _) L (rel_int.mpr (by rw [h4.length]))⟩
  · exact p.elim
theorem boot_int' : bootBuiltins "int" = some (.type "int") := by decide +kernel
theorem boot_list' : bootBuiltins "list" = some (.type "list") := by decide +kernel
theorem boot_tuple' : bootBuiltins "tuple" = some (.type "tuple") := by decide +kernel
theorem boot_abs' : bootBuiltins "abs" = some (.builtin "abs") := by decide +kernel
theorem boot_max' : bootBuiltins "max" = some (.builtin "max") := by decide +kernel
theorem boot_min' : bootBuiltins "min" = some (.builtin "min") := by decide +kernel
theorem boot_sum' : bootBuiltins "sum" = some (.builtin "sum") := by decide +kernel
theorem boot_len' : bootBuiltins "len" = some (.builtin "len") := by decide +kernel
theorem boot_repr' : bootBuiltins "repr" = some (.builtin "repr") := by decide +kernel
theorem boot_isi' : bootBuiltins "isinstance" = some (.builtin "isinstance") := by decide +kernel
theorem boot_bool' : bootBuiltins "bool" = some (.type "bool") := by decide +kernel
theorem boot_str' : bootBuiltins "str" = some (.type "str") := by decide +kernel
theorem boot_dict' : bootBuiltins "dict" = some (.type "dict") := by decide +kernel
theorem boot_type' : bootBuiltins "type" = some (.type "type") := by decide +kernel
theorem boot_sorted' : bootBuiltins "sorted" = some (.builtin "sorted") := by decide +kernel
/-- a built-in by its name, one or more arguments -/
theorem se_b {id : String} {x : Str} {p : Pos} {e : Expr} {es : List Expr} {f : AF} {r : List V → Hp → VK → Prop} {g : List D → Store → R D} (hc : CallR X (.builtin id) r) (hg : RuleC w r g) (gl : Gl X x) (hm : X.mg x = none) (hv : bootBuiltins x = some (.builtin id)) (ha : PA X (e :: es) (tA w f))
    (h1 : x ≠ "__name__" := by decide) (h2 : (x == ("__debug__" : Str)) = false := by decide) (h3 : starEach (e :: es) X.env = (false, eval e X.env) :: starEach es X.env := by rfl) (h4 : (backTo pos (starEach es X.env)).any (·.1) = false := by rfl) :
    PE X (.Call (.Name x p) (e :: es) [] pos) (tE w (eCall g f)) :=
  PE_imp (pe_callB hc gl hm hv ha h1 h2 h3 h4) fun σ H Q q => call_use hg q
theorem se_ty {id : String} {x : Str} {p : Pos} {e : Expr} {es : List Expr} {f : AF} {r : List V → Hp → VK → Prop} {g : List D → Store → R D} (hc : CallR X (.type id) r) (hg : RuleC w r g) (gl : Gl X x) (hm : X.mg x = none) (hv : bootBuiltins x = some (.type id)) (ha : PA X (e :: es) (tA w f))
    (h1 : x ≠ "__name__" := by decide) (h2 : (x == ("__debug__" : Str)) = false := by decide) (h3 : starEach (e :: es) X.env = (false, eval e X.env) :: starEach es X.env := by rfl) (h4 : (backTo pos (starEach es X.env)).any (·.1) = false := by rfl) :
    PE X (.Call (.Name x p) (e :: es) [] pos) (tE w (eCall g f)) :=
  PE_imp (pe_callTy hc gl hm hv ha h1 h2 h3 h4) fun σ H Q q => call_use hg q
section
variable {e : Expr} {es : List Expr} {f : AF} {p : Pos}
theorem se_len (hm : X.mg "len" = none) (ha : PA X (e :: es) (tA w f)) (gl : Gl X "len" := by rfl) (hK : X.K = w.K := by rfl) (h3 : starEach (e :: es) X.env = (false, eval e X.env) :: starEach es X.env := by rfl) (h4 : (backTo pos (starEach es X.env)).any (·.1) = false := by rfl) :
    PE X (.Call (.Name "len" p) (e :: es) [] pos) (tE w (eCall gLen f)) :=
  se_b (call_len.or call_lenD) (rule_len X.K hK) gl hm boot_len' ha (by decide) (by decide) h3 h4
def gInt1 : List D → Store → R D := fun xs S => match xs with
  | [.int i] => .ok (.int i) S
  | [.bl k] => .ok (.int (if k = true then 1 else 0)) S
  | _ => .bad
theorem se_int1 (hm : X.mg "int" = none) (ha : PA X (e :: es) (tA w f)) (gl : Gl X "int" := by rfl) (h3 : starEach (e :: es) X.env = (false, eval e X.env) :: starEach es X.env := by rfl) (h4 : (backTo pos (starEach es X.env)).any (·.1) = false := by rfl) :
    PE X (.Call (.Name "int" p) (e :: es) [] pos) (tE w (eCall gInt1 f)) :=
  se_ty call_int1 (fun ι S H σ xs vs Q L r q => by
    unfold gInt1 at q
    split at q
    · obtain ⟨v, rfl, rv⟩ := rel1 r
      rw [rel_int] at rv; subst rv
      exact .inl ⟨_, rfl, q _ ι H (.refl _ _) L (rel_int.mpr rfl)⟩
    · obtain ⟨v, rfl, rv⟩ := rel1 r
      rw [rel_bl] at rv; subst rv
      exact .inr ⟨_, rfl, q _ ι H (.refl _ _) L (rel_int.mpr rfl)⟩
    · exact q.elim) gl hm boot_int' ha (by decide) (by decide) h3 h4
def gAbs : List D → Store → R D := fun xs S => match xs with
  | [.int i] => .ok (.int (if i < 0 then -i else i)) S
  | _ => .bad
theorem se_abs (hm : X.mg "abs" = none) (ha : PA X (e :: es) (tA w f)) (gl : Gl X "abs" := by rfl) (h3 : starEach (e :: es) X.env = (false, eval e X.env) :: starEach es X.env := by rfl) (h4 : (backTo pos (starEach es X.env)).any (·.1) = false := by rfl) :
    PE X (.Call (.Name "abs" p) (e :: es) [] pos) (tE w (eCall gAbs f)) :=
  se_b call_abs (fun ι S H σ xs vs Q L r q => by
    unfold gAbs at q
    split at q
    · obtain ⟨v, rfl, rv⟩ := rel1 r
      rw [rel_int] at rv; subst rv
      exact ⟨_, rfl, q _ ι H (.refl _ _) L (rel_int.mpr rfl)⟩
    · exact q.elim) gl hm boot_abs' ha (by decide) (by decide) h3 h4
def gMax2 : List D → Store → R D := fun xs S => match xs with
  | [.int i, .int j] => .ok (.int (if j > i then j else i)) S
  | _ => .bad
theorem se_max2 (hc : X.calm = true) (hm : X.mg "max" = none) (ha : PA X (e :: es) (tA w f)) (gl : Gl X "max" := by rfl) (h3 : starEach (e :: es) X.env = (false, eval e X.env) :: starEach es X.env := by rfl) (h4 : (backTo pos (starEach es X.env)).any (·.1) = false := by rfl) :
    PE X (.Call (.Name "max" p) (e :: es) [] pos) (tE w (eCall gMax2 f)) :=
  se_b (call_max2 hc) (fun ι S H σ xs vs Q L r q => by
    unfold gMax2 at q
    split at q
    · obtain ⟨v, u, rfl, rv, ru⟩ := rel2 r
      rw [rel_int] at rv ru; subst rv; subst ru
      exact ⟨_, _, rfl, q _ ι H (.refl _ _) L (rel_int.mpr rfl)⟩
    · exact q.elim) gl hm boot_max' ha (by decide) (by decide) h3 h4
def gMin2 : List D → Store → R D := fun xs S => match xs with
  | [.int i, .int j] => .ok (.int (if j < i then j else i)) S
  | _ => .bad
theorem se_min2 (hc : X.calm = true) (hm : X.mg "min" = none) (ha : PA X (e :: es) (tA w f)) (gl : Gl X "min" := by rfl) (h3 : starEach (e :: es) X.env = (false, eval e X.env) :: starEach es X.env := by rfl) (h4 : (backTo pos (starEach es X.env)).any (·.1) = false := by rfl) :
    PE X (.Call (.Name "min" p) (e :: es) [] pos) (tE w (eCall gMin2 f)) :=
  se_b (call_min2 hc) (fun ι S H σ xs vs Q L r q => by
    unfold gMin2 at q
    split at q
    · obtain ⟨v, u, rfl, rv, ru⟩ := rel2 r
      rw [rel_int] at rv ru; subst rv; subst ru
      exact ⟨_, _, rfl, q _ ι H (.refl _ _) L (rel_int.mpr rfl)⟩
    · exact q.elim) gl hm boot_min' ha (by decide) (by decide) h3 h4
def gListOf : List D → Store → R D := fun xs S => match xs with
  | [d] => (match asQ S d with
    | some ys => newL S ys
    | none => .bad)
  | _ => .bad
theorem se_list (hm : X.mg "list" = none) (ha : PA X (e :: es) (tA w f)) (gl : Gl X "list" := by rfl) (hK : X.K = w.K := by rfl) (h3 : starEach (e :: es) X.env = (false, eval e X.env) :: starEach es X.env := by rfl) (h4 : (backTo pos (starEach es X.env)).any (·.1) = false := by rfl) :
    PE X (.Call (.Name "list" p) (e :: es) [] pos) (tE w (eCall gListOf f)) :=
  se_ty call_list_of (fun ι S H σ xs vs Q L r q => by
    unfold gListOf at q
    split at q
    · rename_i d
      obtain ⟨v, rfl, rv⟩ := rel1 r
      cases e : asQ S d with
      | none => rw [e] at q; exact q.elim
      | some ys =>
        rw [e] at q
        obtain ⟨z, us, rfl, h, l⟩ := L.seq e rv
        exact ⟨z, us, rfl, by rw [hK]; exact h, post_newL L l q⟩
    · exact q.elim) gl hm boot_list' ha (by decide) (by decide) h3 h4
def gTupOf : List D → Store → R D := fun xs S => match xs with
  | [.tup ys] => .ok (.tup ys) S
  | [.ob n] => (match asL S (.ob n) with
    | some ys => .ok (.tup ys) S
    | none => .bad)
  | _ => .bad
theorem se_tuple (hm : X.mg "tuple" = none) (ha : PA X (e :: es) (tA w f)) (gl : Gl X "tuple" := by rfl) (hK : X.K = w.K := by rfl) (h3 : starEach (e :: es) X.env = (false, eval e X.env) :: starEach es X.env := by rfl) (h4 : (backTo pos (starEach es X.env)).any (·.1) = false := by rfl) :
    PE X (.Call (.Name "tuple" p) (e :: es) [] pos) (tE w (eCall gTupOf f)) :=
  se_ty call_tuple_of (fun ι S H σ xs vs Q L r q => by
    unfold gTupOf at q
    split at q
    · obtain ⟨v, rfl, rv⟩ := rel1 r
      have rv' := rv
      obtain ⟨z, us, rfl, h, l⟩ := rel_tup.mp rv
      exact ⟨z, us, rfl, .inr ⟨SqT.of h, q _ ι H (.refl _ _) L rv'⟩⟩
    · rename_i n
      obtain ⟨v, rfl, rv⟩ := rel1 r
      cases e : asL S (.ob n) with
      | none => rw [e] at q; exact q.elim
      | some ys =>
        rw [e] at q
        obtain ⟨z, us, rfl, h, l⟩ := L.seqL e rv
        exact ⟨z, us, rfl, .inl ⟨by rw [hK]; exact h, post_tup L l q⟩⟩
    · exact q.elim) gl hm boot_tuple' ha (by decide) (by decide) h3 h4
def intsD : List D → Option (List Int)
  | [] => some []
  | .int i :: r => (intsD r).map (i :: ·)
  | _ :: _ => none
theorem intsD_map : ∀ {xs : List D} {ns : List Int}, intsD xs = some ns → xs = ns.map D.int
  | [], ns, e => by simp only [intsD] at e; cases e; rfl
  | d :: r, ns, e => by
    cases d <;> simp only [intsD] at e <;> try cases e
    cases q : intsD r with
    | none => rw [q] at e; cases e
    | some ms => rw [q] at e; cases e; rw [intsD_map q]; rfl
def gSum : List D → Store → R D := fun xs S => match xs with
  | [d] => (match asL S d with
    | some ys => (match intsD ys with
      | some ns => .ok (.int ns.sum) S
      | none => .bad)
    | none => .bad)
  | _ => .bad
theorem se_sum (hc : X.calm = true) (hm : X.mg "sum" = none) (ha : PA X (e :: es) (tA w f)) (gl : Gl X "sum" := by rfl) (hK : X.K = w.K := by rfl) (h3 : starEach (e :: es) X.env = (false, eval e X.env) :: starEach es X.env := by rfl) (h4 : (backTo pos (starEach es X.env)).any (·.1) = false := by rfl) :
    PE X (.Call (.Name "sum" p) (e :: es) [] pos) (tE w (eCall gSum f)) :=
  se_b (cr_sum hc) (fun ι S H σ xs vs Q L r q => by
    unfold gSum at q
    split at q
    · rename_i d
      obtain ⟨v, rfl, rv⟩ := rel1 r
      cases e : asL S d with
      | none => rw [e] at q; exact q.elim
      | some ys =>
        rw [e] at q
        dsimp only at q
        cases e2 : intsD ys with
        | none => rw [e2] at q; exact q.elim
        | some ns =>
          rw [e2] at q
          obtain ⟨z, us, rfl, h, l⟩ := L.seqL e rv
          rw [intsD_map e2] at l
          refine ⟨z, ns, rfl, by rw [hK, ← l.ints]; exact h, q _ ι H (.refl _ _) L (rel_int.mpr rfl)⟩
    · exact q.elim) gl hm boot_sum' ha (by decide) (by decide) h3 h4
end
/-- isinstance(x, T), T a built-in class by its name -/
def tyD (S : Store) : D → Option String
  | .non => some "NoneType"
  | .bl _ => some "bool"
  | .int _ => some "int"
  | .str _ => some "str"
  | .tup _ => some "tuple"
  | .ob n => match S[n]? with
    | some (.lst _) => some "list"
    | some (.frz _) => some "list"
    | some (.dct _) => some "dict"
    | none => none
theorem Link.ty {K : PySem.W.Frag} {ι : List Addr} {S : Store} {H : Hp} (L : Link K ι S H) {d : D} {T : String} {v : V} (e : tyD S d = some T) (r : Rel ι H d v) : TyOf K H v (.type T) := by
  cases d <;> simp only [tyD] at e
  · cases e; rw [rel_non.mp r]; exact .non
  · cases e; rw [rel_bl.mp r]; exact .bl _
  · cases e; rw [rel_int.mp r]; exact .int _
  · cases e; rw [rel_str.mp r]; exact .str _
  · cases e; obtain ⟨q, vs, rfl, h, l⟩ := rel_tup.mp r; exact .tup h
  · rename_i n
    cases q : S[n]? with
    | none => rw [q] at e; cases e
    | some o =>
      rw [q] at e
      cases o <;> cases e
      · obtain ⟨p, vs, rfl, _, h, _⟩ := L.lst q r; exact .lst h
      · obtain ⟨p, o, vs, rfl, _, h, _⟩ := L.frz q r; exact .frz h
      · obtain ⟨p, vs, rfl, _, h, _⟩ := L.dct q r; exact .dK h
def eIsi (T : String) (f : EF) : EF := fun ρ S => (f ρ S).bind fun d S1 => match tyD S1 d with
  | some t => (match kitB t T with
    | some k => .ok (.bl k) S1
    | none => .bad)
  | none => .bad
theorem se_isi {T : String} {x : Str} {p p2 : Pos} (hm : X.mg "isinstance" = none) (hmT : X.mg x = none) (hv : bootBuiltins x = some (.type T)) (ha : PE X a (tE w fa)) (gl : Gl X "isinstance" := by rfl) (glT : Gl X x := by rfl) (hK : X.K = w.K := by rfl)
    (h1 : x ≠ "__name__" := by decide) (h2 : (x == ("__debug__" : Str)) = false := by decide)
    (h3 : starEach [a, .Name x p2] X.env = (false, eval a X.env) :: starEach [.Name x p2] X.env := by rfl) (h3' : starEach [.Name x p2] X.env = (false, eval (.Name x p2) X.env) :: starEach [] X.env := by rfl) (h4 : (backTo pos (starEach [.Name x p2] X.env)).any (·.1) = false := by rfl) :
    PE X (.Call (.Name "isinstance" p) [a, .Name x p2] [] pos) (tE w (eIsi T fa)) := by
  refine PE_imp (pe_callB call_isi gl hm boot_isi' (pa_cons ha (pa_cons (pe_bltn (v := .ty T) glT hmT hv rfl h1 h2) pa_nil h3') h3) (by decide) (by decide) h3 h4) fun σ H Q ⟨ι, ρ, S, L, Sl, q⟩ => ?_
  refine ⟨ι, ρ, S, L, Sl, PostE.thenE q fun d S1 q1 v ι1 H1 x1 L1 r1 => ?_⟩
  replace q1 := q1.ext x1
  cases e1 : tyD S1 d with
  | none => simp only [e1] at q1; exact q1.elim
  | some t =>
    simp only [e1] at q1
    cases e2 : kitB t T with
    | none => simp only [e2] at q1; exact q1.elim
    | some k =>
      simp only [e2] at q1
      exact ⟨v, .ty T, .type t, .type T, k, rfl, .ty T, .base (by rw [hK]; exact L1.ty e1 r1), kit_ty e2, q1 _ ι1 H1 (.refl _ _) L1 (rel_bl.mpr rfl)⟩
/-- xs.append(y) -/
def eApp (fo : EF) (f : AF) : EF := fun ρ S => (fo ρ S).bind fun o S1 => match asL S1 o with
  | some _ => (f ρ S1).bind fun ys S2 => (match o, ys with
    | .ob n, [y] => (match S2[n]? with
      | some (.lst xs) => if xs.length < LIM then .ok .non (S2.set n (.lst (xs ++ [y]))) else .bad
      | _ => .bad)
    | _, _ => .bad)
  | none => .bad
theorem se_app {e : Expr} {f : AF} {apos : Pos} (ha : PE X a (tE w fa)) (hb : PA X [e] (tA w f)) (hK : X.K = w.K := by rfl)
    (h1 : attributeBase a "append" X.env (eval a X.env) = eval a X.env := by rfl)
    (h2 : (((backTo pos (starEach [e] X.env)).all fun x => !x.1) && ((backToKw pos (keywordEach [] X.env)).all fun x => x.1.isSome) && decide (([e].length + ([] : List Keyword).length + if ([] : List Keyword).isEmpty = true then 0 else 1) < 30)) = true := by rfl)
    (h3 : (apos.endLine == pos.line) = true := by rfl)
    (h4 : starEach [e] X.env = (false, eval e X.env) :: starEach [] X.env := by rfl)
    (h5 : ((backTo pos (starEach [] X.env)).any fun x => x.1) = false := by rfl) :
    PE X (.Call (.Attribute a "append" apos) [e] [] pos) (tE w (eApp fa f)) := by
  refine PE_imp (pe_bm PySem.F.plainAttrs_list PySem.F.slot_list_append PySem.F.type_list_append mt_append ha hb h1 h2 h3 h4 h5) fun σ H Q ⟨ι, ρ, S, L, Sl, q⟩ => ?_
  refine ⟨ι, ρ, S, L, Sl, PostE.thenE q fun d S1 q1 v ι1 H1 x1 L1 r1 => ?_⟩
  replace q1 := q1.ext x1
  cases e1 : asL S1 d with
  | none => simp only [e1] at q1; exact q1.elim
  | some zs =>
    simp only [e1] at q1
    obtain ⟨p, us, rfl, hs, _⟩ := L1.seqL e1 r1
    refine ⟨.inl ⟨rfl, us, by rw [hK]; exact hs⟩, ι1, ρ, S1, L1, Sl.ext x1, PostA.thenE q1 fun ys S2 q2 vs ι2 H2 x2 L2 r2 => ?_⟩
    replace q2 := q2.ext x2
    split at q2
    · rename_i n y
      obtain ⟨u, rfl, ru⟩ := rel1 r2
      cases e2 : S2[n]? with
      | none => simp only [e2] at q2; exact q2.elim
      | some o =>
        simp only [e2] at q2
        cases o <;> try exact q2.elim
        rename_i xs
        obtain ⟨p', ws, hp, hn, h, l⟩ := L2.lst e2 (r1.ext x2)
        cases hp
        dsimp only at q2
        split at q2
        · rename_i hz
          have xp : Ext ι2 H2 ι2 (upd H2 p (.lst (ws ++ [u]))) := .put hn h rfl
          refine ⟨p, ws, u, rfl, rfl, h, by rw [lim_eq, l.length]; exact hz, ?_⟩
          exact q2 .non ι2 _ xp (L2.put hn h rfl ⟨_, upd_same, (l.append r2).ext xp⟩) (rel_non.mpr rfl)
        · exact q2.elim
    · exact q2.elim
end
end Z

set_option Elab.async false
set_option linter.all false
set_option maxRecDepth 100000
set_option maxHeartbeats 1000000
namespace Z
variable [Tabs]
open PySem L2 PySem.Spec PyProof.Rows

mutual
theorem Rel.off {ι : List Addr} {H : Hp} {q : Addr} {o o' : HO} (h : H q = some o) (nt : ∀ vs, o ≠ .tup vs) : ∀ {d : D} {v : V}, Rel ι H d v → Rel ι (upd H q o') d v
  | .non, _, r => by simp only [Rel] at r ⊢; exact r
  | .bl _, _, r => by simp only [Rel] at r ⊢; exact r
  | .int _, _, r => by simp only [Rel] at r ⊢; exact r
  | .str _, _, r => by simp only [Rel] at r ⊢; exact r
  | .tup xs, _, r => by
    simp only [Rel] at r ⊢
    obtain ⟨p, vs, e, g, l⟩ := r
    refine ⟨p, vs, e, ?_, RelL.off h nt l⟩
    have : p ≠ q := by intro z; subst z; rw [h] at g; cases g; exact nt vs rfl
    rw [upd_ne this]; exact g
  | .ob n, _, r => by simp only [Rel] at r ⊢; exact r
theorem RelL.off {ι : List Addr} {H : Hp} {q : Addr} {o o' : HO} (h : H q = some o) (nt : ∀ vs, o ≠ .tup vs) : ∀ {xs : List D} {vs : List V}, RelL ι H xs vs → RelL ι (upd H q o') xs vs
  | [], _, r => by simp only [RelL] at r ⊢; exact r
  | x :: xs, _, r => by
    simp only [RelL] at r ⊢
    obtain ⟨v, t, e, g, l⟩ := r
    exact ⟨v, t, e, Rel.off h nt g, RelL.off h nt l⟩
end
theorem RelK.off {κ : Type} {ι : List Addr} {H : Hp} {q : Addr} {o o' : HO} (h : H q = some o) (nt : ∀ vs, o ≠ .tup vs) : ∀ {xs : List (κ × D)} {vs : List (κ × V)}, RelK ι H xs vs → RelK ι (upd H q o') xs vs
  | [], _, r => by simp only [RelK] at r ⊢; exact r
  | (k, x) :: xs, _, r => by
    simp only [RelK] at r ⊢
    obtain ⟨v, t, e, g, l⟩ := r
    exact ⟨v, t, e, g.off h nt, RelK.off h nt l⟩
mutual
theorem Rel.wk {ι : List Addr} {H : Hp} (t : List Addr) : ∀ {d : D} {v : V}, Rel ι H d v → Rel (ι ++ t) H d v
  | .non, _, r => by simp only [Rel] at r ⊢; exact r
  | .bl _, _, r => by simp only [Rel] at r ⊢; exact r
  | .int _, _, r => by simp only [Rel] at r ⊢; exact r
  | .str _, _, r => by simp only [Rel] at r ⊢; exact r
  | .tup xs, _, r => by
    simp only [Rel] at r ⊢
    obtain ⟨p, vs, e, g, l⟩ := r
    exact ⟨p, vs, e, g, RelL.wk t l⟩
  | .ob n, _, r => by
    simp only [Rel] at r ⊢
    obtain ⟨p, e, q⟩ := r
    exact ⟨p, by rw [List.getElem?_append_left (List.getElem?_eq_some_iff.mp e).1]; exact e, q⟩
theorem RelL.wk {ι : List Addr} {H : Hp} (t : List Addr) : ∀ {xs : List D} {vs : List V}, RelL ι H xs vs → RelL (ι ++ t) H xs vs
  | [], _, r => by simp only [RelL] at r ⊢; exact r
  | x :: xs, _, r => by
    simp only [RelL] at r ⊢
    obtain ⟨v, u, e, g, l⟩ := r
    exact ⟨v, u, e, Rel.wk t g, RelL.wk t l⟩
end
theorem RelK.wk {κ : Type} {ι : List Addr} {H : Hp} (t : List Addr) : ∀ {xs : List (κ × D)} {vs : List (κ × V)}, RelK ι H xs vs → RelK (ι ++ t) H xs vs
  | [], _, r => by simp only [RelK] at r ⊢; exact r
  | (k, x) :: xs, _, r => by
    simp only [RelK] at r ⊢
    obtain ⟨v, u, e, g, l⟩ := r
    exact ⟨v, u, e, g.wk t, RelK.wk t l⟩
theorem Link.off {K : PySem.W.Frag} {ι : List Addr} {S : Store} {H : Hp} {q : Addr} {o o' : HO} (L : Link K ι S H) (hq : q ∉ ι) (h : H q = some o) (nt : ∀ vs, o ≠ .tup vs) (nb : isTab o = false := by rfl) : Link K ι S (upd H q o') := by
  refine ⟨L.len, L.nd, fun p hp => ?_, fun n a u e1 e2 => ?_⟩
  · obtain ⟨ps, e, k⟩ := L.tab p hp
    refine ⟨ps, ?_, k⟩
    rw [upd_ne (fun z => by subst z; rw [e] at h; cases h; exact Bool.noConfusion nb)]; exact e
  have na : a ≠ q := fun z => hq (z ▸ List.mem_of_getElem? e1)
  have := L.obj n a u e1 e2
  cases u with
  | lst xs => obtain ⟨vs, h1, h2⟩ := this; exact ⟨vs, by rw [upd_ne na]; exact h1, h2.off h nt⟩
  | frz xs => obtain ⟨p, vs, h1, h2⟩ := this; exact ⟨p, vs, by rw [upd_ne na]; exact h1, h2.off h nt⟩
  | dct xs => obtain ⟨vs, h1, h2⟩ := this; exact ⟨vs, by rw [upd_ne na]; exact h1, h2.off h nt⟩
theorem Ext.off {ι ι' : List Addr} {H H' : Hp} {q : Addr} {o : HO} (x : Ext ι H ι' H') (h : H q = none) : Ext ι H ι' (upd H' q o) :=
  ⟨x.pre, fun a u e f => by rw [upd_ne (ne_of_none e h)]; exact x.keep a u e f, fun a u e => by rw [upd_ne (ne_of_none e h)]; exact x.there a u e⟩
theorem Ext.fresh {ι ι' : List Addr} {H H' : Hp} {q : Addr} {o : HO} (x : Ext ι H ι' H') (hq : q ∉ ι) (h : H q = some o) : q ∉ ι' := by
  obtain ⟨t, rfl, ht⟩ := x.pre
  intro m
  rcases List.mem_append.mp m with m | m
  · exact hq m
  · rw [ht q m] at h; cases h
theorem Ext.join {ι ι' : List Addr} {H H' : Hp} {q : Addr} (x : Ext ι H ι' H') (h : H q = none) : Ext ι H (ι' ++ [q]) H' := by
  obtain ⟨⟨t, rfl, ht⟩, k, th⟩ := x
  refine ⟨⟨t ++ [q], by simp, fun p hp => ?_⟩, k, th⟩
  rcases List.mem_append.mp hp with m | m
  · exact ht p m
  · rw [List.mem_singleton.mp m]; exact h
theorem Link.not_mem {K : PySem.W.Frag} {ι : List Addr} {S : Store} {H : Hp} (L : Link K ι S H) {q : Addr} (h : H q = none) : q ∉ ι := fun m => by
  obtain ⟨i, hi, e⟩ := List.getElem_of_mem m
  obtain ⟨w, hw⟩ := L.there (n := i) (a := q) (by rw [List.getElem?_eq_getElem hi, e])
  rw [hw] at h; cases h
theorem Link.join {K : PySem.W.Frag} {ι : List Addr} {S : Store} {H : Hp} {q : Addr} {u : O} (L : Link K ι S H) (hq : q ∉ ι) (r : OR K (ι ++ [q]) H q u) : Link K (ι ++ [q]) (S ++ [u]) H := by
  refine ⟨by simp [L.len], ?_, L.tab, fun n a v e1 e2 => ?_⟩
  · rw [List.nodup_append]
    refine ⟨L.nd, by simp, fun a ha b hb => ?_⟩
    have hb' : b = q := by simpa using hb
    subst hb'
    intro z; subst z; exact hq ha
  · by_cases z : n < ι.length
    · rw [List.getElem?_append_left z] at e1
      rw [List.getElem?_append_left (by rw [← L.len]; exact z)] at e2
      have := L.obj n a v e1 e2
      cases v with
      | lst xs => obtain ⟨vs, h1, h2⟩ := this; exact ⟨vs, h1, h2.wk _⟩
      | frz xs => obtain ⟨o, vs, h1, h2⟩ := this; exact ⟨o, vs, h1, h2.wk _⟩
      | dct xs => obtain ⟨vs, h1, h2⟩ := this; exact ⟨vs, h1, h2.wk _⟩
    · have hn : n = ι.length := by
        have := (List.getElem?_eq_some_iff.mp e1).1
        simp at this; omega
      subst hn
      rw [List.getElem?_append_right (Nat.le_refl _)] at e1
      rw [L.len, List.getElem?_append_right (Nat.le_refl _)] at e2
      simp at e1 e2
      subst e1; subst e2
      exact r

structure Src (K : PySem.W.Frag) (ι1 : List Addr) (H1 : Hp) (J : It) (items : List D) (good : Store → Bool) : Prop where
  stop : ∀ ι S H, Ext ι1 H1 ι H → Link K ι S H → good S = true → J.stop items.length H
  go : ∀ ι S H i, Ext ι1 H1 ι H → Link K ι S H → good S = true → i < items.length → J.go i H
  yld : ∀ ι S H i d v H', Ext ι1 H1 ι H → Link K ι S H → good S = true → items[i]? = some d → J.yld i H v H' → (∀ q o, H q = some o → H' q = some o) ∧ Rel ι H' d v ∧ Ext ι H ι H' ∧ Link K ι S H'
theorem Src.ext {K : PySem.W.Frag} {ι1 ι2 : List Addr} {H1 H2 : Hp} {J : It} {items : List D} {good : Store → Bool} (s : Src K ι1 H1 J items good) (x : Ext ι1 H1 ι2 H2) : Src K ι2 H2 J items good :=
  ⟨fun ι S H y => s.stop ι S H (x.trans y), fun ι S H i y => s.go ι S H i (x.trans y), fun ι S H i d v H' y => s.yld ι S H i d v H' (x.trans y)⟩
abbrev IF := Rho → Store → R (List D × (Store → Bool))
def PostI (w : Wd) (ι : List Addr) (H : Hp) (σ : L2.St) (Q : It → Hp → Prop) : R (List D × (Store → Bool)) → Prop
  | .ok p S' => ∀ J ι' H', Ext ι H ι' H' → Link w.K ι' S' H' → Src w.K ι' H' J p.1 p.2 → Q J H'
  | .exc c fs S' => ∀ cls dd ι' H', Ext ι H ι' H' → Link w.K ι' S' H' → ExcR w.CA ι' H' c fs cls dd → w.W cls dd σ H'
  | .bad => False
def tI (w : Wd) (f : IF) : TI := fun σ H Q => ∃ ι ρ S, Link w.K ι S H ∧ Slots ι H ρ σ ∧ PostI w ι H σ Q (f ρ S)
section
variable {X : Cx} {w : Wd} {pos : Pos} {a b c : Expr} {fa fb fc : EF}
theorem PI_imp {tg e : Expr} {t t' : TI} (h : PI X tg e t) (i : ∀ σ H Q, t' σ H Q → t σ H Q) : PI X tg e t' := ⟨fun pins s σ H Q I q => h.run pins s σ H Q I (i σ H Q q)⟩
theorem PostE.thenI {ι : List Addr} {H : Hp} {σ : L2.St} {Q : It → Hp → Prop} {Q' : VK} {r : R D} {k : D → Store → R (List D × (Store → Bool))} (h : PostI w ι H σ Q (r.bind k))
    (q : ∀ d S', PostI w ι H σ Q (k d S') → ∀ v ι' H', Ext ι H ι' H' → Link w.K ι' S' H' → Rel ι' H' d v → Q' v H') : PostE w ι H σ Q' r := by
  cases r with
  | ok d S => exact fun v ι' H' y L e => q d S h v ι' H' y L e
  | exc c fs S => exact h
  | bad => exact h
theorem PostA.thenI {ι : List Addr} {H : Hp} {σ : L2.St} {Q : It → Hp → Prop} {Q' : List V → Hp → Prop} {r : R (List D)} {k : List D → Store → R (List D × (Store → Bool))} (h : PostI w ι H σ Q (r.bind k))
    (q : ∀ d S', PostI w ι H σ Q (k d S') → ∀ v ι' H', Ext ι H ι' H' → Link w.K ι' S' H' → RelL ι' H' d v → Q' v H') : PostA w ι H σ Q' r := by
  cases r with
  | ok d S => exact fun v ι' H' y L e => q d S h v ι' H' y L e
  | exc c fs S => exact h
  | bad => exact h
theorem PostI.ext {ι ι1 : List Addr} {H H1 : Hp} {σ : L2.St} {Q : It → Hp → Prop} {r : R (List D × (Store → Bool))} (x : Ext ι H ι1 H1) (h : PostI w ι H σ Q r) : PostI w ι1 H1 σ Q r := by
  cases r with
  | ok d S => exact fun J ι' H' y => h J ι' H' (x.trans y)
  | exc c fs S => exact fun cls dd ι' H' y => h cls dd ι' H' (x.trans y)
  | bad => exact h
/-- the items of a list or the script -/
def iLst (f : EF) : IF := fun ρ S => (f ρ S).bind fun d S1 => match asL S1 d with
  | some xs => .ok (xs, chkL d xs) S1
  | none => .bad
theorem src_list {ι1 : List Addr} {H1 : Hp} {S1 : Store} {d : D} {xs : List D} {q : Addr} (L1 : Link w.K ι1 S1 H1) (e0 : asL S1 d = some xs) (r1 : Rel ι1 H1 d (.ref q)) : Src w.K ι1 H1 (Itl w.K q) xs (chkL d xs) := by
  have stays : ∀ {ι' : List Addr} {H' : Hp} {S' : Store}, Ext ι1 H1 ι' H' → Link w.K ι' S' H' → chkL d xs S' = true → ∃ vs', SqL w.K H' q vs' ∧ RelL ι' H' xs vs' := fun {ι' H' S'} x' L' e' => by
    obtain ⟨a', vs', ea, h', l'⟩ := L'.seqL (chkL_ok.mp e') (r1.ext x')
    cases ea
    exact ⟨vs', h', l'⟩
  refine ⟨fun ι S H x L g => ?_, fun ι S H i x L g hi => ?_, fun ι S H i d' v H' x L g hi hy => ?_⟩
  · obtain ⟨vs, h, l⟩ := stays x L g
    exact ⟨vs, h, by rw [l.length]; exact Nat.le_refl _⟩
  · obtain ⟨vs, h, l⟩ := stays x L g
    exact ⟨vs, vs[i]'(by rw [l.length]; exact hi), h, by simp⟩
  · obtain ⟨vs, h, l⟩ := stays x L g
    obtain ⟨rfl, hy⟩ := hy
    obtain ⟨d2, e1, e2⟩ := l.getV (hy vs h)
    rw [hi] at e1; cases e1
    exact ⟨fun _ _ z => z, e2, .refl _ _, L⟩
theorem si_list {tg : Expr} (h : PE X a (tE w fa)) (hK : X.K = w.K := by rfl) : PI X tg a (tI w (iLst fa)) := by
  refine PI_imp (pi_list h) fun σ H Q ⟨ι, ρ, S, L, Sl, p⟩ => ?_
  refine ⟨ι, ρ, S, L, Sl, PostE.thenI p fun d S1 q v ι1 H1 x1 L1 r1 => ?_⟩
  cases e : asL S1 d with
  | none => simp only [e] at q; exact q.elim
  | some xs =>
    simp only [e] at q
    obtain ⟨p, vs, rfl, hs, l⟩ := L1.seqL e r1
    refine ⟨p, rfl, ⟨vs, by rw [hK]; exact hs⟩, ?_⟩
    rw [hK]
    exact q _ ι1 H1 x1 L1 (src_list L1 e r1)
def iTupD (f : EF) : IF := fun ρ S => (f ρ S).bind fun d S1 => match d with
  | .tup xs => .ok (xs, noChk) S1
  | _ => .bad
theorem si_tup {tg : Expr} (h : PE X a (tE w fa)) (hK : X.K = w.K := by rfl) : PI X tg a (tI w (iTupD fa)) := by
  refine PI_imp (pi_tup h) fun σ H Q ⟨ι, ρ, S, L, Sl, p⟩ => ?_
  refine ⟨ι, ρ, S, L, Sl, PostE.thenI p fun d S1 q v ι1 H1 x1 L1 r1 => ?_⟩
  cases d <;> try exact q.elim
  rename_i xs
  obtain ⟨p, vs, rfl, hs, l⟩ := rel_tup.mp r1
  refine ⟨p, rfl, ⟨vs, SqT.of hs⟩, ?_⟩
  rw [hK]
  refine q _ ι1 H1 x1 L1 ⟨fun ι S H x L g => ⟨vs, SqT.of (x.keep p _ hs (.inl rfl)), by rw [l.length]; exact Nat.le_refl _⟩, fun ι S H i x L g hi => ⟨vs, vs[i]'(by rw [l.length]; exact hi), SqT.of (x.keep p _ hs (.inl rfl)), by simp⟩, fun ι S H i d' v H' x L g hi hy => ?_⟩
  obtain ⟨rfl, hy⟩ := hy
  obtain ⟨d2, e1, e2⟩ := l.getV (hy vs (SqT.of (x.keep p _ hs (.inl rfl))))
  rw [hi] at e1; cases e1
  exact ⟨fun _ _ z => z, e2.ext x, .refl _ _, L⟩
/-- a list, the script or a tuple -/
def iSeq (f : EF) : IF := fun ρ S => (f ρ S).bind fun d S1 => match d with
  | .tup xs => .ok (xs, noChk) S1
  | d => (match asL S1 d with
    | some xs => .ok (xs, chkL d xs) S1
    | none => .bad)
theorem PI_or {tg e : Expr} {t t' : TI} (h : PI X tg e t) (h' : PI X tg e t') : PI X tg e (fun σ H R => t σ H R ∨ t' σ H R) :=
  ⟨fun pins s σ H R I q => q.elim (fun q => h.run pins s σ H R I q) fun q => h'.run pins s σ H R I q⟩
theorem si_seq {tg : Expr} (h : PE X a (tE w fa)) (hK : X.K = w.K := by rfl) : PI X tg a (tI w (iSeq fa)) := by
  refine PI_imp (PI_or (si_list h hK) (si_tup h hK)) fun σ H Q ⟨ι, ρ, S, L, Sl, p⟩ => ?_
  unfold iSeq at p
  cases e : fa ρ S with
  | bad => rw [e] at p; exact p.elim
  | exc c fs S1 => rw [e] at p; exact .inl ⟨ι, ρ, S, L, Sl, by unfold iLst; rw [e]; exact p⟩
  | ok d S1 =>
    rw [e] at p
    simp only [R.bind_ok] at p
    by_cases z : ∃ xs, d = .tup xs
    · obtain ⟨xs, rfl⟩ := z
      exact .inr ⟨ι, ρ, S, L, Sl, by unfold iTupD; rw [e]; exact p⟩
    · refine .inl ⟨ι, ρ, S, L, Sl, ?_⟩
      unfold iLst
      rw [e]
      simp only [R.bind_ok]
      cases d <;> first | exact p | exact (z ⟨_, rfl⟩).elim
theorem src_range {K : PySem.W.Frag} {ι1 : List Addr} {H1 : Hp} {lo : Int} {n : Nat} : Src K ι1 H1 (Itr lo n) (upFrom lo n) noChk := by
  refine ⟨fun ι S H x L g => by rw [upFrom_length]; exact Nat.le_refl _, fun ι S H i x L g hi => by rw [upFrom_length] at hi; exact hi, fun ι S H i d' v H' x L g hi hy => ?_⟩
  obtain ⟨rfl, rfl⟩ := hy
  have : d' = .int (lo + i) := by
    unfold upFrom at hi
    simp at hi
    obtain ⟨z, _, e⟩ := hi
    obtain ⟨h1, h2⟩ := List.getElem?_eq_some_iff.mp (show _ from by assumption)
    simp_all
  subst this
  exact ⟨fun _ _ z => z, rel_int.mpr rfl, .refl _ _, L⟩
def iR1 (f : AF) : IF := fun ρ S => (f ρ S).bind fun ds S1 => match int1? ds with
  | some j => if -(2 ^ 62) ≤ j ∧ j < 2 ^ 62 then .ok (upFrom 0 j.toNat, noChk) S1 else .bad
  | none => .bad
def iR2 (f : AF) : IF := fun ρ S => (f ρ S).bind fun ds S1 => match int2? ds with
  | some (i, j) => if -(2 ^ 62) ≤ i ∧ i < 2 ^ 62 ∧ -(2 ^ 62) ≤ j ∧ j < 2 ^ 62 then .ok (upFrom i (j - i).toNat, noChk) S1 else .bad
  | none => .bad
theorem si_r1 {tg : Expr} {p cpos : Pos} {f : AF} (hm : X.mg "range" = none) (ha : PA X [a] (tA w f)) (gl : Gl X "range" := by rfl) (hst : starEach [a] X.env = [(false, eval a X.env)] := by rfl) : PI X tg (.Call (.Name "range" p) [a] [] cpos) (tI w (iR1 f)) := by
  refine PI_imp (pi_range1 gl hm ha hst) fun σ H Q ⟨ι, ρ, S, L, Sl, q⟩ => ?_
  refine ⟨ι, ρ, S, L, Sl, PostA.thenI q fun ds S1 q1 vs ι1 H1 x1 L1 r1 => ?_⟩
  cases e : int1? ds with
  | none => simp only [e] at q1; exact q1.elim
  | some j =>
    simp only [e] at q1
    split at q1
    · rename_i hz
      exact ⟨j, int1_of e r1, hz.1, hz.2, q1 _ ι1 H1 x1 L1 src_range⟩
    · exact q1.elim
theorem si_r2 {tg : Expr} {p cpos : Pos} {f : AF} (hm : X.mg "range" = none) (ha : PA X [a, b] (tA w f)) (gl : Gl X "range" := by rfl) (hst : starEach [a, b] X.env = [(false, eval a X.env), (false, eval b X.env)] := by rfl) (hst2 : starEach [b] X.env = [(false, eval b X.env)] := by rfl) : PI X tg (.Call (.Name "range" p) [a, b] [] cpos) (tI w (iR2 f)) := by
  refine PI_imp (pi_range2 gl hm ha hst hst2) fun σ H Q ⟨ι, ρ, S, L, Sl, q⟩ => ?_
  refine ⟨ι, ρ, S, L, Sl, PostA.thenI q fun ds S1 q1 vs ι1 H1 x1 L1 r1 => ?_⟩
  cases e : int2? ds with
  | none => simp only [e] at q1; exact q1.elim
  | some ij =>
    obtain ⟨i, j⟩ := ij
    simp only [e] at q1
    split at q1
    · rename_i hz
      exact ⟨i, j, int2_of e r1, hz, q1 _ ι1 H1 x1 L1 src_range⟩
    · exact q1.elim
/-- enumerate of a list or the script -/
def enumD (xs : List D) : List D := xs.zipIdx.map fun p => .tup [.int (p.2 : Nat), p.1]
theorem enumD_length (xs : List D) : (enumD xs).length = xs.length := by simp [enumD]
theorem enumD_get {xs : List D} {i : Nat} {d : D} (h : (enumD xs)[i]? = some d) : ∃ x, xs[i]? = some x ∧ d = .tup [.int (i : Nat), x] := by
  unfold enumD at h
  rw [List.getElem?_map, List.getElem?_zipIdx] at h
  cases e : xs[i]? with
  | none => rw [e] at h; simp at h
  | some x => rw [e] at h; simp at h; exact ⟨x, rfl, h.symm⟩
def iEnumL (f : AF) : IF := fun ρ S => (f ρ S).bind fun ds S1 => match ds with
  | [d] => (match asL S1 d with
    | some xs => .ok (enumD xs, chkL d xs) S1
    | none => .bad)
  | _ => .bad
theorem si_enum {tpos p cpos : Pos} {elts : List Expr} {kk : Nat} {f : AF} (hm : X.mg "enumerate" = none) (ha : PA X [a] (tA w f)) (gl : Gl X "enumerate" := by rfl) (hst : starEach [a] X.env = [(false, eval a X.env)] := by rfl) (hK : X.K = w.K := by rfl) :
    PI X (.Tuple elts kk tpos) (.Call (.Name "enumerate" p) [a] [] cpos) (tI w (iEnumL f)) := by
  refine PI_imp (pi_enum gl hm ha hst) fun σ H Q ⟨ι, ρ, S, L, Sl, q⟩ => ?_
  refine ⟨ι, ρ, S, L, Sl, PostA.thenI q fun ds S1 q1 vs ι1 H1 x1 L1 r1 => ?_⟩
  split at q1
  · rename_i d
    obtain ⟨v, rfl, rv⟩ := rel1 r1
    cases e : asL S1 d with
    | none => simp only [e] at q1; exact q1.elim
    | some xs =>
      simp only [e] at q1
      obtain ⟨p, vs, rfl, hs, l⟩ := L1.seqL e rv
      refine ⟨p, vs, rfl, by rw [hK]; exact hs, ?_⟩
      rw [hK]
      have sr := src_list (w := w) L1 e rv
      refine q1 _ ι1 H1 x1 L1 ⟨fun ι S H x L g => by rw [enumD_length]; exact sr.stop ι S H x L g, fun ι S H i x L g hi => by rw [enumD_length] at hi; exact sr.go ι S H i x L g hi, fun ι S H i d' v H' x L g hi hy => ?_⟩
      obtain ⟨T, y, rfl, hT, rfl, hy⟩ := hy
      obtain ⟨x0, e1, rfl⟩ := enumD_get hi
      obtain ⟨_, r0, _, _⟩ := sr.yld ι S H i x0 y H x L g e1 ⟨rfl, hy⟩
      have xn : Ext ι H ι (upd H T (.tup [.int (i : Nat), y])) := .new hT
      exact ⟨fun q o z => by rw [upd_ne (ne_of_none z hT)]; exact z, rel_tup.mpr ⟨T, _, rfl, upd_same, relL_cons.mpr ⟨_, _, rfl, rel_int.mpr rfl, relL_cons.mpr ⟨_, _, rfl, r0.ext xn, relL_nil.mpr rfl⟩⟩⟩, xn, L.fixed hT⟩
  · exact q1.elim

def sFor (src : IF) (gg : GF) (body : SF) : SF := fun ρ S => (src ρ S).to ρ fun p S1 => loop gg p.2 body p.1 ρ S1
theorem PostI.toS {ι : List Addr} {H : Hp} {σ : L2.St} {ρ : Rho} {E : Ends} {Q : It → Hp → Prop} {r : R (List D × (Store → Bool))} {k : List D × (Store → Bool) → Store → RS} (Sl : Slots ι H ρ σ) (h : PostS w ι H E (r.to ρ k))
    (q : ∀ d S', PostS w ι H E (k d S') → ∀ J ι' H', Ext ι H ι' H' → Link w.K ι' S' H' → Src w.K ι' H' J d.1 d.2 → Q J H') : PostI w ι H σ Q r := by
  cases r with
  | ok d S => exact fun J ι' H' y L s => q d S h J ι' H' y L s
  | exc c fs S => exact fun cls dd ι' H' y L e => h cls dd σ ι' H' y L (Sl.ext y) e
  | bad => exact h
theorem s_for {tg iter : Expr} {body : List Stmt} {gg : GF} {src : IF} {g : SF} (hp : PassesOwn (model X.prog X.w) X.A X.env X.xe) (hc : X.calm = true) (hi : PI X tg iter (tI w src)) (hg : PG X tg (tG w gg)) (hb : PSs X body (tS w g))
    (hs : ∀ x, foldedSetIterable iter X.env x = pure x := by intro _; rfl) : PS X (.For tg iter body [] pos) (tS w (sFor src gg g)) := by
  refine PS_imp (ps_for hp hc hi hg hb hs) fun E σ H ⟨ι, ρ, S, L, Sl, p⟩ => ?_
  refine ⟨ι, ρ, S, L, Sl, PostI.toS Sl p fun pr S1 q J ι1 H1 x1 L1 s1 => ?_⟩
  obtain ⟨items, good⟩ := pr
  dsimp only at q s1
  refine ⟨fun i m σ' H' => m = items.length - i ∧ i ≤ items.length ∧ ∃ ι' ρ' S', Ext ι1 H1 ι' H' ∧ Link w.K ι' S' H' ∧ Slots ι' H' ρ' σ' ∧ PostS w ι' H' E (loop gg good g (items.drop i) ρ' S'), ⟨items.length, by simp, Nat.zero_le _, ι1, ρ, S1, .refl _ _, L1, Sl.ext x1, q.ext x1⟩, ?_⟩
  rintro i m σ' H' ⟨rfl, hi', ι', ρ', S', x', L', Sl', p'⟩
  have hz := loop_chk p'
  by_cases hlt : i < items.length
  · rw [List.drop_eq_getElem_cons hlt] at p'
    refine .inr ⟨s1.go ι' S' H' i x' L' hz hlt, _, fun σ2 H2 h2 => ⟨items.length - (i + 1), by omega, rfl, hlt, h2⟩, fun y H2 hy => ?_⟩
    obtain ⟨_, r2, y2, L2'⟩ := s1.yld ι' S' H' i items[i] y H2 x' L' hz (by simp [hlt]) hy
    obtain ⟨_, ρ1, z, pb⟩ := loop_turn (N := fun σ2 H2 => ∃ ι2 ρ2 S2, Ext ι1 H1 ι2 H2 ∧ Link w.K ι2 S2 H2 ∧ Slots ι2 H2 ρ2 σ2 ∧ PostS w ι2 H2 E (loop gg good g (items.drop (i + 1)) ρ2 S2)) (p'.ext y2)
      fun σ2 ι2 H2 ρ2 S2 y3 L2 Sl2 p2 => ⟨ι2, ρ2, S2, (x'.trans y2).trans y3, L2, Sl2, p2⟩
    refine ⟨ι', ρ', S', _, L2', Sl'.ext y2, r2, ?_⟩
    rw [z]
    exact fun σ2 Sl2 => ⟨ι', ρ1, S', L2', Sl2, pb⟩
  · have ei : i = items.length := by omega
    subst ei
    rw [List.drop_length] at p'
    unfold loop at p'
    rw [if_pos hz] at p'
    exact .inl ⟨s1.stop ι' S' H' x' L' hz, p' σ' ι' H' (.refl _ _) L' Sl'⟩

def wipeD (ρ : Rho) : List Nat → Rho
  | [] => ρ
  | v :: vs => (wipeD ρ vs).set v none
theorem wipe_cons (σ : L2.St) (v : Nat) (vs : List Nat) : wipe σ (v :: vs) = (wipe σ vs).set v none := rfl
theorem wipe_nil (σ : L2.St) : wipe σ [] = σ := rfl
theorem Slots.unset {ι : List Addr} {H : Hp} {ρ : Rho} {σ : L2.St} (s : Slots ι H ρ σ) (i : Nat) : Slots ι H (ρ.set i none) (σ.set i none) :=
  ⟨by simp [s.len], fun j e h => by
    by_cases q : i = j
    · subst q
      have hl : i < ρ.length := by
        have := (List.getElem?_eq_some_iff.mp h).1
        simpa using this
      rw [List.getElem?_set_self hl] at h
      cases h
    · rw [List.getElem?_set_ne q] at h ⊢
      exact s.get j e h⟩
theorem Slots.wipe {ι : List Addr} {H : Hp} {ρ : Rho} {σ : L2.St} (s : Slots ι H ρ σ) : ∀ vs, Slots ι H (wipeD ρ vs) (L2.wipe σ vs)
  | [] => s
  | v :: vs => by rw [wipe_cons]; exact (Slots.wipe s vs).unset v
theorem wipe_len (σ : L2.St) : ∀ vs, (wipe σ vs).length = σ.length
  | [] => rfl
  | v :: vs => by rw [wipe_cons, List.length_set, wipe_len σ vs]
theorem wipe_get (σ : L2.St) (j : Nat) : ∀ vs, (wipe σ vs)[j]? = if j ∈ vs then (if j < σ.length then some none else none) else σ[j]?
  | [] => by simp [wipe_nil]
  | v :: vs => by
    rw [wipe_cons]
    by_cases e : v = j
    · subst e
      simp only [List.mem_cons, true_or, if_true]
      by_cases hl : v < σ.length
      · rw [List.getElem?_set_self (by rw [wipe_len]; exact hl), if_pos hl]
      · rw [if_neg hl, List.getElem?_eq_none (by rw [List.length_set, wipe_len]; omega)]
    · rw [List.getElem?_set_ne e, wipe_get σ j vs]
      have : (j ∈ v :: vs) ↔ j ∈ vs := by simp [Ne.symm e]
      simp only [this]
theorem wipe_set (σ : L2.St) (i : Nat) (x : Option V) (vs : List Nat) (h : i ∈ vs) : wipe (σ.set i x) vs = wipe σ vs := by
  apply List.ext_getElem?
  intro j
  rw [wipe_get, wipe_get]
  by_cases e : j ∈ vs
  · simp [e]
  · have : i ≠ j := fun z => e (z ▸ h)
    simp only [if_neg e]
    rw [List.getElem?_set_ne this]
theorem wipe_wipe (σ : L2.St) (vs : List Nat) : wipe (wipe σ vs) vs = wipe σ vs := by
  apply List.ext_getElem?
  intro j
  rw [wipe_get, wipe_get]
  by_cases e : j ∈ vs
  · simp [e, wipe_len]
  · simp [e]
/-- a target of a comprehension -/
def GX (vs : List Nat) (g : TG) (gg : GF) : Prop := ∀ (ι : List Addr) (H : Hp) (ρ : Rho) (σ : L2.St) (d : D) (v : V) (Q : L2.St → Hp → Prop), Rel ι H d v → Slots ι H ρ σ → (match gg d ρ with
  | some ρ' => ∀ σ2, wipe σ2 vs = wipe σ vs → Slots ι H ρ' σ2 → Q σ2 H
  | none => False) → g v σ H Q
def GXs (vs : List Nat) (g : TGs) (gg : GFs) : Prop := ∀ (ι : List Addr) (H : Hp) (ρ : Rho) (σ : L2.St) (d : List D) (v : List V) (Q : L2.St → Hp → Prop), RelL ι H d v → Slots ι H ρ σ → (match gg d ρ with
  | some ρ' => ∀ σ2, wipe σ2 vs = wipe σ vs → Slots ι H ρ' σ2 → Q σ2 H
  | none => False) → g v σ H Q
theorem gx_name (vs : List Nat) (i : Nat) (h : i ∈ vs) : GX vs (gName i) (gN i) := fun ι H ρ σ d v Q r Sl q => q _ (wipe_set σ i _ vs h) (Sl.set i r)
theorem gxs_nil (vs : List Nat) : GXs vs gNil gsNil := fun ι H ρ σ d v Q r Sl q => by
  cases d with
  | nil => exact ⟨relL_nil.mp r, q σ rfl Sl⟩
  | cons a d => exact q.elim
theorem gxs_cons {vs : List Nat} {g : TG} {gg : GF} {h : TGs} {hh : GFs} (h1 : GX vs g gg) (h2 : GXs vs h hh) : GXs vs (gCons g h) (gsCons gg hh) := fun ι H ρ σ d v Q r Sl q => by
  cases d with
  | nil => exact q.elim
  | cons a d =>
    obtain ⟨x, t, rfl, r1, r2⟩ := relL_cons.mp r
    refine ⟨x, t, rfl, h1 ι H ρ σ a x _ r1 Sl ?_⟩
    unfold gsCons at q
    cases e : gg a ρ with
    | none => simp only [e] at q
    | some ρ' =>
      simp only [e] at q ⊢
      intro σ2 w2 Sl2
      refine h2 ι H ρ' σ2 d t Q r2 Sl2 ?_
      cases e2 : hh d ρ' with
      | none => simp only [e2] at q
      | some ρ'' =>
        simp only [e2] at q ⊢
        exact fun σ3 w3 Sl3 => q σ3 (w3.trans w2) Sl3
theorem gx_tup {K : PySem.W.Frag} {vs : List Nat} {n : Nat} {h : TGs} {hh : GFs} (h2 : GXs vs h hh) : GX vs (gTup K n h) (gTupD n hh) := fun ι H ρ σ d v Q r Sl q => by
  cases d <;> try exact q.elim
  rename_i xs
  obtain ⟨a, us, rfl, h1, l⟩ := rel_tup.mp r
  unfold gTupD at q
  by_cases hz : xs.length = n
  · simp only [if_pos hz] at q
    exact ⟨a, us, rfl, SqT.of h1, by rw [l.length]; exact hz, h2 ι H ρ σ xs us Q l Sl q⟩
  · simp only [if_neg hz] at q
def tAll : TF := fun _ S => .ok true S
theorem sts_nil : PTs X [] (tT w tAll) := ⟨fun pins s σ H Q I ⟨ι, ρ, S, L, Sl, p⟩ => pts_nil.run pins s σ H Q I (p ι H (.refl _ _) L)⟩
theorem sts_one {f : TF} (h : PT X a (tT w f)) : PTs X [a] (tT w f) := pts_one h
def lcLoop (gg : GF) (tt : TF) (te : EF) (good : Store → Bool) (ρ0 : Rho) : List D → List D → Store → R (List D)
  | [], acc, S => if good S = true then .ok acc S else .bad
  | x :: xs, acc, S => if good S = true then (match gg x ρ0 with
    | some ρ1 => (match tt ρ1 S with
      | .ok k S1 => if k = true then (match te ρ1 S1 with
        | .ok y S2 => if acc.length < LIM then lcLoop gg tt te good ρ0 xs (acc ++ [y]) S2 else .bad
        | _ => .bad) else lcLoop gg tt te good ρ0 xs acc S1
      | _ => .bad)
    | none => .bad) else .bad
def eLC (src : IF) (vs : List Nat) (gg : GF) (tt : TF) (te : EF) : EF := fun ρ S => (src ρ S).bind fun p S1 => (lcLoop gg tt te p.2 (wipeD ρ vs) p.1 [] S1).bind fun ys S2 => newL S2 ys
theorem lcLoop_good {gg : GF} {tt : TF} {te : EF} {good : Store → Bool} {ρ0 : Rho} {xs acc : List D} {S : Store} {ι : List Addr} {H : Hp} {σ : L2.St} {Q : VK} {k : List D → Store → R D} (p : PostE w ι H σ Q ((lcLoop gg tt te good ρ0 xs acc S).bind k)) : good S = true := by
  by_cases hz : good S = true
  · exact hz
  · exfalso
    cases xs <;> (unfold lcLoop at p; rw [if_neg hz] at p; exact p)
abbrev Wd.no (w : Wd) : Wd := ⟨w.K, w.CA, fun _ _ _ _ => False⟩
theorem PostI.thenE {ι : List Addr} {H : Hp} {σ : L2.St} {Q : VK} {Q' : It → Hp → Prop} {r : R (List D × (Store → Bool))} {k : List D × (Store → Bool) → Store → R D} (h : PostE w ι H σ Q (r.bind k))
    (q : ∀ d S', PostE w ι H σ Q (k d S') → ∀ J ι' H', Ext ι H ι' H' → Link w.K ι' S' H' → Src w.K ι' H' J d.1 d.2 → Q' J H') : PostI w ι H σ Q' r := by
  cases r with
  | ok d S => exact fun v ι' H' y L e => q d S h v ι' H' y L e
  | exc c fs S => exact h
  | bad => exact h
theorem lc_use {vs : List Nat} {src : IF} {g : TG} {gg : GF} {tt : TF} {te : EF} (gx : GX vs g gg) {σ : L2.St} {H : Hp} {Q : VK} (h : tE w (eLC src vs gg tt te) σ H Q) : tLc (tI w src) g (tT w.no tt) (tE w.no te) vs σ H Q := by
  obtain ⟨ι, ρ, S, L, Sl, p⟩ := h
  refine ⟨ι, ρ, S, L, Sl, PostI.thenE p fun pr S1 q J ι1 H1 x1 L1 s1 D hD => ?_⟩
  obtain ⟨items, good⟩ := pr
  dsimp only at q s1
  replace q := q.ext x1
  have Sl1 := (Sl.ext x1).wipe vs
  refine ⟨fun i m H' => m = items.length - i ∧ i ≤ items.length ∧ ∃ ι' S' acc accV, Ext ι1 H1 ι' H' ∧ D ∉ ι' ∧ H' D = some (.lst accV) ∧ RelL ι' H' acc accV ∧ Link w.K ι' S' H' ∧ PostE w ι1 H1 σ Q ((lcLoop gg tt te good (wipeD ρ vs) (items.drop i) acc S').bind fun ys S2 => newL S2 ys),
    ⟨items.length, by simp, Nat.zero_le _, ι1, S1, [], [], .off (.refl _ _) hD, L1.not_mem hD, upd_same, relL_nil.mpr rfl, L1.fixed hD, q⟩, ?_⟩
  rintro i m H' ⟨rfl, hi', ι', S', acc, accV, x', nD, hD', la, L', p'⟩
  have hz := lcLoop_good p'
  by_cases hlt : i < items.length
  · rw [List.drop_eq_getElem_cons hlt] at p'
    refine .inr ⟨s1.go ι' S' H' i x' L' hz hlt, _, fun H2 h2 => ⟨items.length - (i + 1), by omega, rfl, hlt, h2⟩, fun y H2 hy => ?_⟩
    obtain ⟨same, r2, y2, L2'⟩ := s1.yld ι' S' H' i items[i] y H2 x' L' hz (by simp [hlt]) hy
    have x2 := x'.trans y2
    unfold lcLoop at p'
    rw [if_pos hz] at p'
    refine gx ι' H2 (wipeD ρ vs) (wipe σ vs) items[i] y _ r2 (Sl1.ext x2) ?_
    cases e1 : gg items[i] (wipeD ρ vs) with
    | none => simp only [e1] at p'; exact p'.elim
    | some ρ1 =>
      simp only [e1] at p' ⊢
      intro σ2 w2 Sl2
      refine ⟨w2.trans (wipe_wipe σ vs), ι', ρ1, S', L2', Sl2, ?_⟩
      cases e2 : tt ρ1 S' with
      | bad => simp only [e2] at p'; exact p'.elim
      | exc c fs S2 => simp only [e2] at p'; exact p'.elim
      | ok k S2 =>
        simp only [e2] at p'
        intro ι3 H3 y3 L3
        have x3 := x2.trans y3
        have hD2 := same D _ hD'
        have nD3 := y3.fresh nD hD2
        have hD3 := y3.keep D _ hD2 (.inr ⟨nD, rfl⟩)
        have la3 := (la.ext y2).ext y3
        cases k with
        | false =>
          rw [if_neg Bool.false_ne_true] at p' ⊢
          exact ⟨ι3, S2, acc, accV, x3, nD3, hD3, la3, L3, p'⟩
        | true =>
          rw [if_pos rfl] at p' ⊢
          refine ⟨ι3, ρ1, S2, L3, Sl2.ext y3, ?_⟩
          cases e3 : te ρ1 S2 with
          | bad => simp only [e3] at p'; exact p'.elim
          | exc c fs S3 => simp only [e3] at p'; exact p'.elim
          | ok z S3 =>
            simp only [e3] at p'
            by_cases hl : acc.length < LIM
            · rw [if_pos hl] at p'
              intro u ι4 H4 y4 L4 r4
              have nD4 := y4.fresh nD3 hD3
              have hD4 := y4.keep D _ hD3 (.inr ⟨nD3, rfl⟩)
              have nt : ∀ vs, HO.lst accV ≠ .tup vs := fun _ z => by cases z
              refine ⟨accV, hD4, by rw [lim_eq, la.length]; exact hl, ι4, S3, acc ++ [z], accV ++ [u], (x3.trans y4).off hD, nD4, upd_same, ?_, L4.off nD4 hD4 nt, p'⟩
              exact ((la3.ext y4).append (relL_cons.mpr ⟨u, [], rfl, r4, relL_nil.mpr rfl⟩)).off hD4 nt
            · rw [if_neg hl] at p'; exact p'.elim
  · have ei : i = items.length := by omega
    subst ei
    rw [List.drop_length] at p'
    unfold lcLoop at p'
    rw [if_pos hz] at p'
    refine .inl ⟨s1.stop ι' S' H' x' L' hz, ?_⟩
    refine p' (.ref D) (ι' ++ [D]) H' (x'.join hD) (L'.join nD ⟨accV, hD', la.wk _⟩) (rel_ob.mpr ⟨D, ?_, rfl⟩)
    rw [← L'.len, List.getElem?_append_right (Nat.le_refl _)]; simp
theorem se_lc {elt tg iter : Expr} {ifs : List Expr} {scope : Scope} {own : List (Str × Nat)} {src : IF} {g : TG} {gg : GF} {tt : TF} {te : EF} (hc : X.calm = true) (hN : X.N.Nodup) (hi : PI X tg iter (tI w src)) (ok : BlkOk X.N X.env.scope scope own)
    (hg : ∀ (s : Shared) (H : Hp) (C : Addr) (cl : List (Str × Addr)) (fp : List Addr), PG (X.blk s H scope (compEnvC scope cl C X.env) fp) tg g)
    (gx : GX (own.map (·.2)) g gg)
    (ht : ∀ (s : Shared) (H : Hp) (C : Addr) (cl : List (Str × Addr)) (fp : List Addr), PTs (X.blk s H scope (compEnvC scope cl C X.env) fp) ifs (tT w.no tt))
    (he : ∀ (s : Shared) (H : Hp) (C : Addr) (cl : List (Str × Addr)) (fp : List Addr), PE (X.blk s H scope (compEnvC scope cl C X.env) fp) elt (tE w.no te))
    (hs : ∀ x, foldedSetIterable iter X.env x = pure x := by intro _; rfl) :
    PE X (.ListComp elt [⟨tg, iter, ifs, 0⟩] scope pos) (tE w (eLC src (own.map (·.2)) gg tt te)) :=
  PE_imp (pe_lc hc hN hi ok hg ht he hs) fun σ H Q h => lc_use gx h
theorem s_setLc {i : Nat} {y : Str} {py : Pos} {elt tg iter : Expr} {ifs : List Expr} {scope : Scope} {own : List (Str × Nat)} {spos : Pos} {src : IF} {g : TG} {gg : GF} {tt : TF} {te : EF} (hc : X.calm = true) (hN : X.N.Nodup) (hi0 : X.N[i]? = some y) (hy : X.env.scope.names.lookup y = some .local)
    (sw : swapsWith (elt.ListComp [⟨tg, iter, ifs, 0⟩] scope pos) (some (Expr.Name y py)) spos.line X.env = pure true)
    (hi : PI X tg iter (tI w src)) (ok : BlkOk X.N X.env.scope scope own)
    (hg : ∀ (s : Shared) (H : Hp) (C : Addr) (cl : List (Str × Addr)) (fp : List Addr), PG (X.blk s H scope (compEnvC scope cl C X.env) fp) tg g)
    (gx : GX (own.map (·.2)) g gg)
    (ht : ∀ (s : Shared) (H : Hp) (C : Addr) (cl : List (Str × Addr)) (fp : List Addr), PTs (X.blk s H scope (compEnvC scope cl C X.env) fp) ifs (tT w.no tt))
    (he : ∀ (s : Shared) (H : Hp) (C : Addr) (cl : List (Str × Addr)) (fp : List Addr), PE (X.blk s H scope (compEnvC scope cl C X.env) fp) elt (tE w.no te))
    (hs : ∀ x, foldedSetIterable iter X.env x = pure x := by intro _; rfl) :
    PS X (.Assign [.Name y py] (elt.ListComp [⟨tg, iter, ifs, 0⟩] scope pos) spos) (tS w (sSet i (eLC src (own.map (·.2)) gg tt te))) := by
  refine PS_imp (ps_setLc hc hN hi0 hy sw hi ok hg ht he hs) fun D σ H ⟨ι, ρ, S, L, Sl, p⟩ => ?_
  exact lc_use gx ⟨ι, ρ, S, L, Sl, PostE.toS Sl p fun d S' q v ι' H' x' L' r => q _ ι' H' x' L' ((Sl.ext x').set i r)⟩
theorem hu64 {A : Around} {k : Nat} (h : Room k A) : A.units + 64 < cLine := by have := h.un; omega
end
end Z

set_option Elab.async false
set_option linter.all false
set_option maxRecDepth 100000
set_option maxHeartbeats 1000000
namespace Z
variable [Tabs]
open PySem L2 PySem.Spec PyProof.Rows
section
variable {X : Cx} {w : Wd} {pos : Pos} {a b c : Expr} {fa fb fc : EF}
def newD (S : Store) (kvs : List (Key × D)) : R D := .ok (.ob S.length) (S ++ [.dct kvs])
def eNewD : EF := fun _ S => newD S []
theorem se_newD : PE X (.Dict [] [] pos) (tE w eNewD) := by
  refine PE_imp pe_dnewK fun σ H Q ⟨ι, ρ, S, L, Sl, p⟩ q hq => ?_
  obtain ⟨L1, x1⟩ := L.new (u := .dct []) (o := .dK []) hq ⟨[], upd_same, by simp only [RelK]⟩
  refine p (.ref q) _ _ x1 L1 (rel_ob.mpr ⟨q, ?_, rfl⟩)
  rw [← L.len, List.getElem?_append_right (Nat.le_refl _)]; simp
def dMerge (l : List (Key × D)) : List (Key × D) := l.foldl (fun acc kv => dSetK acc kv.1 kv.2) []
theorem RelK.merge {ι : List Addr} {H : Hp} : ∀ {l : List (Key × D)} {ws : List (Key × V)} {acc : List (Key × D)} {accV : List (Key × V)}, RelK ι H l ws → RelK ι H acc accV →
    RelK ι H (l.foldl (fun acc kv => dSetK acc kv.1 kv.2) acc) (mergeK accV ws)
  | [], ws, acc, accV, r, s => by simp only [RelK] at r; subst r; exact s
  | (k, d) :: l, ws, acc, accV, r, s => by
    simp only [RelK] at r
    obtain ⟨v, t, rfl, r1, r2⟩ := r
    have := RelK.merge (l := l) (ws := t) r2 (s.put (k := k) r1)
    exact this
/-- the pairs of a display -/
def dispGo : List (EF × EF) → Rho → Store → R (List (Key × D))
  | [], _, S => .ok [] S
  | (fk, fv) :: r, ρ, S => (fk ρ S).bind fun y S1 => (fv ρ S1).bind fun z S2 => match keyD y with
    | some k => (dispGo r ρ S2).bind fun l S3 => .ok ((k, z) :: l) S3
    | none => .bad
def eDisp (fs : List (EF × EF)) : EF := fun ρ S => (dispGo fs ρ S).bind fun l S1 => newD S1 (dMerge l)
def PostK (w : Wd) (ι : List Addr) (H : Hp) (p : Addr) (σ : L2.St) (Q : List (Key × V) → Hp → Prop) : R (List (Key × D)) → Prop
  | .ok d S' => ∀ ws ι' H', Ext ι H ι' H' → Link w.K ι' S' H' → p ∉ ι' → H' p = some (.dK []) → RelK ι' H' d ws → ws.length = d.length → Q ws H'
  | .exc c fs S' => ∀ cls dd ι' H', Ext ι H ι' H' → Link w.K ι' S' H' → ExcR w.CA ι' H' c fs cls dd → w.W cls dd σ H'
  | .bad => False
theorem disp_go {ι0 : List Addr} {H0 : Hp} {p : Addr} {σ : L2.St} : ∀ (fs : List (EF × EF)) {ι : List Addr} {ρ : Rho} {S : Store} {H : Hp} {Q : List (V × V) → Hp → Prop}, Ext ι0 H0 ι H → Link w.K ι S H → Slots ι H ρ σ → p ∉ ι → H p = some (.dK []) → PostK w ι0 H0 p σ (fun kvs H2 => Q (kvs.map (fun kv => (kV kv.1, kv.2))) H2) (dispGo fs ρ S) →
    tPairs (fs.map fun q => (tE w q.1, tE w q.2)) σ H Q
  | [], ι, ρ, S, H, Q, x, L, Sl, np, hp, h => h [] ι H x L np hp (by simp only [RelK]) rfl
  | (fk, fv) :: r, ι, ρ, S, H, Q, x, L, Sl, np, hp, h => by
    show tE w fk σ H fun x H1 => tE w fv σ H1 fun y H2 => tPairs (r.map fun q => (tE w q.1, tE w q.2)) σ H2 fun ps H3 => Q ((x, y) :: ps) H3
    refine ⟨ι, ρ, S, L, Sl, ?_⟩
    unfold dispGo at h
    cases e1 : fk ρ S with
    | bad => rw [e1] at h; exact h.elim
    | exc c fs S1 => rw [e1] at h; exact fun cls dd ι1 H1 x1 L1 er => h cls dd ι1 H1 (x.trans x1) L1 er
    | ok y S1 =>
      rw [e1] at h
      intro v ι1 H1 x1 L1 r1
      refine ⟨ι1, ρ, S1, L1, Sl.ext x1, ?_⟩
      simp only [R.bind_ok] at h
      cases e2 : fv ρ S1 with
      | bad => rw [e2] at h; exact h.elim
      | exc c fs S2 => rw [e2] at h; exact fun cls dd ι2 H2 x2 L2 er => h cls dd ι2 H2 ((x.trans x1).trans x2) L2 er
      | ok z S2 =>
        rw [e2] at h
        intro u ι2 H2 x2 L2 r2
        simp only [R.bind_ok] at h
        cases e3 : keyD y with
        | none => rw [e3] at h; exact h.elim
        | some k =>
          rw [e3] at h
          dsimp only at h
          have hp1 := x1.keep p _ hp (.inr ⟨np, rfl⟩)
          have np1 := x1.fresh np hp
          have hp2 := x2.keep p _ hp1 (.inr ⟨np1, rfl⟩)
          have np2 := x2.fresh np1 hp1
          refine disp_go (ι0 := ι2) (H0 := H2) (p := p) (σ := σ) r (.refl _ _) L2 ((Sl.ext x1).ext x2) np2 hp2 ?_
          cases e4 : dispGo r ρ S2 with
          | bad => rw [e4] at h; exact h.elim
          | exc c fs S3 => rw [e4] at h; exact fun cls dd ι3 H3 x3 L3 er => h cls dd ι3 H3 (((x.trans x1).trans x2).trans x3) L3 er
          | ok l S3 =>
            rw [e4] at h
            intro ws ι3 H3 x3 L3 np3 hp3 rk hl
            have := h ((k, u) :: ws) ι3 H3 (((x.trans x1).trans x2).trans x3) L3 np3 hp3 (by simp only [RelK]; exact ⟨u, ws, rfl, r2.ext x3, rk⟩) (by simp [hl])
            rw [keyD_rel e3 r1]
            exact this
theorem dispGo_len : ∀ (fs : List (EF × EF)) {ρ : Rho} {S : Store} {l : List (Key × D)} {S' : Store}, dispGo fs ρ S = .ok l S' → l.length = fs.length
  | [], ρ, S, l, S', e => by cases e; rfl
  | (fk, fv) :: r, ρ, S, l, S', e => by
    unfold dispGo at e
    cases e1 : fk ρ S with
    | bad => rw [e1] at e; cases e
    | exc c fs S1 => rw [e1] at e; cases e
    | ok y S1 =>
      rw [e1] at e
      simp only [R.bind_ok] at e
      cases e2 : fv ρ S1 with
      | bad => rw [e2] at e; cases e
      | exc c fs S1 => rw [e2] at e; cases e
      | ok z S2 =>
        rw [e2] at e
        simp only [R.bind_ok] at e
        cases e3 : keyD y with
        | none => rw [e3] at e; cases e
        | some k =>
          rw [e3] at e
          dsimp only at e
          cases e4 : dispGo r ρ S2 with
          | bad => rw [e4] at e; cases e
          | exc c fs S1 => rw [e4] at e; cases e
          | ok l' S3 =>
            rw [e4] at e
            cases e
            simp [dispGo_len r e4]
theorem se_disp {keys : List (Option Expr)} {values : List Expr} (fs : List (EF × EF)) (h : PPs X pos keys values (fs.map fun q => (tE w q.1, tE w q.2))) (hn : fs.length ≤ 15) (h1 : (keys.all fun x => x.isSome) = true := by rfl) (h2 : keys.length = values.length := by rfl) (h3 : keys ≠ [] := by intro z; cases z) (h4 : keys.length ≤ 15 := by decide) :
    PE X (.Dict keys values pos) (tE w (eDisp fs)) := by
  refine PE_imp (pe_disp h h1 h2 h3 h4) fun σ H Q ⟨ι, ρ, S, L, Sl, q⟩ p hp => ?_
  have xn : Ext ι H ι (upd H p (.dK [])) := .new hp
  refine disp_go (ι0 := ι) (H0 := upd H p (.dK [])) (p := p) fs (.refl _ _) (L.fixed hp) (Sl.ext xn) (L.not_mem hp) upd_same ?_
  unfold eDisp at q
  cases e : dispGo fs ρ S with
  | bad => rw [e] at q; exact q.elim
  | exc c fs S1 => rw [e] at q; exact fun cls dd ι1 H1 x1 L1 er => q cls dd ι1 H1 (xn.trans x1) L1 er
  | ok l S1 =>
    rw [e] at q
    intro ws ι1 H1 x1 L1 np hp1 rk hl
    have hlen := dispGo_len fs e
    refine ⟨hp1, ws, rfl, by omega, ?_⟩
    have nt : ∀ vs, (HO.dK []) ≠ .tup vs := fun _ z => by cases z
    have x2 : Ext ι H ι1 (upd H1 p (.dK (mergeK [] ws))) := (xn.trans x1).off hp
    have L2 : Link w.K ι1 S1 (upd H1 p (.dK (mergeK [] ws))) := L1.off np hp1 nt
    have rm : RelK ι1 (upd H1 p (.dK (mergeK [] ws))) (dMerge l) (mergeK [] ws) := (RelK.merge rk (by simp only [RelK])).off hp1 nt
    refine q (.ref p) (ι1 ++ [p]) _ (x2.join hp) (L2.join np ⟨_, upd_same, rm.wk _⟩) (rel_ob.mpr ⟨p, ?_, rfl⟩)
    rw [← L2.len, List.getElem?_append_right (Nat.le_refl _)]; simp
end
end Z

set_option Elab.async false
set_option linter.all false
set_option maxRecDepth 100000
set_option maxHeartbeats 1000000
namespace Z
variable [Tabs]
open PySem L2 PySem.Spec PyProof.Rows

structure FnG (P : Program) (w : World) (K : PySem.W.Frag) (mg : Str → Option Value) (base : Heap) (CX : CXT) (k : Nat) (f : Addr) (fd : FuncData) (ps : List Str) (sp : Sp) : Prop where
  len : ∀ (vs : List V) (H : Hp) (Q : VK) (E : XK), sp vs H Q E → vs.length = ps.length
  run : ∀ (A : Around) (outer : List PySem.Env) (s : Shared) (H : Hp) (args : Args) (us : List Value) (vs : List V) (Q : VK) (E : XK),
    Room k A → A.guards = some [] → Env0 P w K mg base A outer s H → BindsTo s fd args (ps.zip us) → Vals vs us → sp vs H Q E →
      codeAny (model P w) A (Code.call (Value.ref f) args) (CR CX outer P w H s Q E) s
theorem fnG_of {CX : CXT} {P : Program} {w : World} {K : PySem.W.Frag} {mg : Str → Option Value} {base : Heap} {k : Nat} {f : Addr} {name qual : Str} {params : Arguments} {body : List Stmt} {scope : Scope} {dV kV doc pm cdv ct oc : Value}
    {an od : Option Addr} {osl : Array (Option Value)} {N ps : List Str} {sp : Sp}
    (lk : List.lookup f K = some { cls := oc, dict := od, data := Data.func (PySem.W.fnOf name qual params body scope dV kV doc pm an cdv ct), slots := osl })
    (hcd : PySem.W.codeIn K cdv qual = true) (S : FnScope N ps scope) (len : ∀ (vs : List V) (H : Hp) (Q : VK) (E : XK), sp vs H Q E → vs.length = ps.length)
    (hbody : ∀ (A : Around) (outer : List PySem.Env) (s : Shared) (H : Hp) (vs : List V) (Q : VK) (E : XK),
      Room k (A.deeper (envOfC qual scope s.heap.objs.size f cdv)) → A.guards = some [] → sp vs H Q E →
        ∃ t, PSs (cxOf CX P w K mg base N qual scope f cdv A outer s H E) body t ∧ t { nx := fun x H' => Q V.non H', rt := Q } (L2.start N vs) H) :
    FnG P w K mg base CX (k + 1) f (PySem.W.fnOf name qual params body scope dV kV doc pm an cdv ct) ps sp where
  len := len
  run := fun A outer s H args us vs Q E hr hgd e0 hb r hsp => by
    have hl := len vs H Q E hsp
    have KX := PySem.W.Frag.In.keeps e0.mod.kin fun b o e => (e0.bs b o e).left
    have lim := Heap.NoLimit.keeps e0.mod.nolimit fun b o e => (e0.bs b o e).left
    refine codeAny_call_function (Room.depth hr) (KX f _ lk) rfl S.co S.gen rfl (PySem.W.codeRec_of KX hcd) (hb (model P w) A.in1 _ _ ?_)
    refine wpAny_newFunctionEnv_cells S.kind ?_ fun env he s1 x => ?_
    · rintro ⟨n, v⟩ hy
      rcases S.par n (List.of_mem_zip hy).left with q | q
      · exact .inl q
      · exact .inr ⟨q, PySem.W.cellsFrom_some scope.names (s.heap.objs.size + 1) [] (Or.inl q)⟩
    subst he
    refine ⟨Heap.NoLimit.keeps lim x.toInCall.keep, codeAny_func ?_⟩
    obtain ⟨t, ht, hq⟩ := hbody A outer s H vs Q E (Room.deeper hr (envOfC qual scope s.heap.objs.size f cdv)) hgd hsp
    have I := inv_start (CX := CX) (E := E) S hr.hd e0 hl r x
    refine wpAny_mono (ht.run [] s1 (L2.start N vs) H { nx := fun x H' => Q V.non H', rt := Q } I hq) (fun fl s' hs => ?_) fun e s' hs => hs
    cases fl with
    | next => obtain ⟨σ', H', J, q⟩ := hs; exact ⟨V.non, H', J.os, J.bare, J.base, J.hok, rfl, q⟩
    | brk => obtain ⟨_, _, _, q⟩ := hs; exact q.elim
    | cont => obtain ⟨_, _, _, q⟩ := hs; exact q.elim
    | ret u => obtain ⟨v, σ', H', J, rv, q⟩ := hs; exact ⟨v, H', J.os, J.bare, J.base, J.hok, rv, q⟩
theorem fun_okG {P : Program} {w : World} {K : PySem.W.Frag} {mg : Str → Option Value} {base : Heap} {x qual : Str} {st : Stmt} {f : Addr} {fd : FuncData} {N ps : List Str} {k : Nat} {sp : Sp} (F : Fun K x qual st f fd) (S : FnScope N ps (defScope st)) (len : ∀ (vs : List V) (H : Hp) (Q : VK) (E : XK), sp vs H Q E → vs.length = ps.length)
    (hbody : ∀ (cdv : Value) (A : Around) (outer : List PySem.Env) (s : Shared) (H : Hp) (vs : List V) (Q : VK) (E : XK),
      Room k (A.deeper (envOfC qual (defScope st) s.heap.objs.size f cdv)) → A.guards = some [] → sp vs H Q E →
        ∃ t, PSs (cxOf (L2.CX P w) P w K mg base N qual (defScope st) f cdv A outer s H E) (defBody st) t ∧ t { nx := fun x H' => Q V.non H', rt := Q } (L2.start N vs) H) :
    FnG P w K mg base (L2.CX P w) (k + 1) f fd ps sp := by
  obtain ⟨oc, od, kV, doc, pm, an, cdv, ct, osl, rfl, lk, hcd⟩ := F.ex
  exact fnG_of lk hcd S len fun A outer s H vs Q E hr hgd hsp => hbody cdv A outer s H vs Q E hr hgd hsp
theorem run_fnG {X : Cx} {CX : CXT} {k : Nat} {f : Addr} {fd : FuncData} {ps : List Str} {sp : Sp} {E : L2.St → XK} {pins : List (Addr × Obj)} {σ : L2.St} {H : Hp} {s : Shared} {Q : VK} {us : List Value} {vs : List V}
    (F : FnG X.prog X.w X.K X.mg X.base CX k f fd ps sp) (hr : Room k X.A) (hgd : X.A.guards = some []) (hb : Binds X.K fd ps []) (hx : PassesAt CX X σ (E σ)) (I : L2.Inv X pins σ H s) (r : Vals vs us) (h : sp vs H Q (E σ)) :
    wpAny (model X.prog X.w) X.A (call (Value.ref f) us) (EP X pins σ Q) X.xe s := by
  have hl : us.length = ps.length := by rw [← Vals.length r]; exact F.len vs H Q (E σ) h
  have b := hb s us (Inv.kIn I) (by rw [List.append_nil]; exact hl)
  rw [List.append_nil] at b
  refine wpAny_call (codeAny_mono (F.run X.A X.stack s H { pos := us } us vs Q (E σ) hr hgd (Inv.env0 I) b r h) fun r s' hq => ?_)
  cases r with
  | error e => exact hx pins H s e s' I hq
  | ok fl =>
    cases fl with
    | next => exact hq.elim
    | brk => exact hq.elim
    | cont => exact hq.elim
    | ret u => exact Inv.after I hq
theorem pe_callG {X : Cx} {CX : CXT} {k : Nat} {f : Addr} {fd : FuncData} {ps : List Str} {sp : Sp} {E : L2.St → XK} {x : Str} {p pos : Pos} {e : Expr} {es : List Expr} {t : TA}
    (F : FnG X.prog X.w X.K X.mg X.base CX k f fd ps sp) (hr : Room k X.A) (hgd : X.A.guards = some []) (hg : Gl X x) (hm : X.mg x = some (Value.ref f)) (hk : PySem.W.keepIn X.K (Value.ref f) = true) (hb : Binds X.K fd ps []) (hx : ∀ (σ : L2.St), PassesAt CX X σ (E σ)) (ha : PA X (e :: es) t)
    (hdb : (x == ("__debug__" : Str)) = false) (he : starEach (e :: es) X.env = (false, eval e X.env) :: starEach es X.env) (hpl : (backTo pos (starEach es X.env)).any (·.1) = false) :
    PE X (.Call (.Name x p) (e :: es) [] pos) (tCallS sp E t) where
  run := fun pins s σ H Q I h =>
    wpAny_Call_Name_kw (ld_glob I hg hm (PySem.W.callWith_K I.ok.mod.kin hk (thn (ha.run pos pins s σ H (fun vs H1 => sp vs H1 Q (E σ)) I h) fun us s1 x => by
      obtain ⟨vs, H1, I1, r, q⟩ := x
      exact ⟨Inv.kIn I1, run_fnG F hr hgd hb (hx σ) I1 r q⟩) he hpl) hdb)
section
variable {X : Cx} {w : Wd} {pos : Pos}
theorem se_fnG {k : Nat} {f : Addr} {fd : FuncData} {ps : List Str} {n : Nat} {fn : Fn} {x : Str} {p : Pos} {e : Expr} {es : List Expr} {fa : AF} (F : FnG X.prog X.w X.K X.mg X.base (L2.CX X.prog X.w) k f fd ps (spF w.K w.CA n fn)) (hr : Room k X.A) (hgd : X.A.guards = some []) (hg : Gl X x) (hm : X.mg x = some (.ref f)) (hk : PySem.W.keepIn X.K (.ref f) = true) (hb : Binds X.K fd ps []) (tk : Takes X w.W)
    (ha : PA X (e :: es) (tA w fa)) (hdb : (x == ("__debug__" : Str)) = false := by decide) (he : starEach (e :: es) X.env = (false, eval e X.env) :: starEach es X.env := by rfl) (hpl : (backTo pos (starEach es X.env)).any (·.1) = false := by rfl) :
    PE X (.Call (.Name x p) (e :: es) [] pos) (tE w (eFn n fn fa)) := by
  refine PE_imp (pe_callG F hr hgd hg hm hk hb (fun σ => passAt tk σ) ha hdb he hpl) fun σ H Q ⟨ι, ρ, S, L, Sl, q⟩ => ?_
  refine ⟨ι, ρ, S, L, Sl, PostA.thenE q fun ds S1 q1 vs ι1 H1 x1 L1 r1 => ?_⟩
  split at q1
  · rename_i hz
    exact sp_of (by rw [r1.length]; exact hz) L1 r1 (q1.ext x1)
  · exact q1.elim
theorem fn_okG {P : Program} {wd : World} {K : PySem.W.Frag} {mg : Str → Option Value} {base : Heap} {CA : ClsAt} {x qual : Str} {st : Stmt} {f : Addr} {fd : FuncData} {N ps : List Str} {k : Nat} {g : SF} (F : Fun K x qual st f fd) (Sc : FnScope N ps (defScope st)) (hps : ps.length ≤ N.length)
    (hbody : ∀ (cdv : Value) (A : Around) (outer : List PySem.Env) (s : Shared) (H : Hp) (E : XK), Room k (A.deeper (envOfC qual (defScope st) s.heap.objs.size f cdv)) → A.guards = some [] →
      PSs (cxOf (L2.CX P wd) P wd K mg base N qual (defScope st) f cdv A outer s H E) (defBody st) (tS ⟨K, CA, fun cls d _ H => E cls d H⟩ g)) :
    FnG P wd K mg base (L2.CX P wd) (k + 1) f fd ps (spF K CA ps.length (runDef N.length g)) := by
  refine fun_okG F Sc (fun vs H Q E h => h.1) fun cdv A outer s H vs Q E hr hgd h => ⟨_, hbody cdv A outer s H E hr hgd, ?_⟩
  obtain ⟨hn, ι, ds, S, L, r, p⟩ := h
  refine ⟨ι, _, S, L, start_slots r (by omega), ?_⟩
  unfold runDef at p
  cases z : g (ds.map some ++ List.replicate (N.length - ds.length) none) S with
  | nx ρ' S' => simp only [z] at p; exact fun σ' ι' H' x' L' Sl' => p .non ι' H' x' L' (rel_non.mpr rfl)
  | rt d S' => simp only [z] at p; exact p
  | exc c fs ρ' S' => simp only [z] at p; exact fun cls dd σ' ι' H' x' L' _ e => p cls dd ι' H' x' L' e
  | bk ρ' S' => simp only [z] at p
  | ct ρ' S' => simp only [z] at p
  | bad => simp only [z] at p

theorem call_reprD (hgd : X.A.guards = some []) (hu : X.A.units + 64 < cLine) : CallR X (.builtin "repr") (fun xs H Q => ∃ a d, xs = [.ref a] ∧ Dp X.K H (.ref a) d ∧ d.showable = true ∧ d.hasDict = false ∧ d.depth ≤ 60 ∧ d.shown.length ≤ sizeLine ∧ Q (.str d.shown) H) := by
  rintro pins s σ H xs us Q I r ⟨a, d, rfl, hd, h1, h2, h3, h4, q⟩
  rcases r with _ | ⟨rv, rt⟩
  rcases rt with _ | _
  rename_i u
  have e : u = .ref a := rv
  subst e
  obtain ⟨as, rd⟩ := L2.Dp.reads I d _ _ hd rfl
  refine repr_of_reads' rd h1 (fun z => by rw [h2] at z; cases z) hgd (by omega) (fun b o z => z) (fun h' u tk hk => ?_) h4
  exact ⟨V.str d.shown, H, I.kept hk, ⟨u, rfl⟩, q⟩
theorem rule_repr (K : PySem.W.Frag) (hK : K = w.K) : RuleC w (fun xs H Q => (∃ i, xs = [.int i] ∧ i.natAbs.log2 < 1920 ∧ Q (.str (toString i)) H) ∨ (∃ a d, xs = [.ref a] ∧ Dp K H (.ref a) d ∧ d.showable = true ∧ d.hasDict = false ∧ d.depth ≤ 60 ∧ d.shown.length ≤ sizeLine ∧ Q (.str d.shown) H)) gRepr := by
  subst hK
  intro ι S H σ xs vs Q L r q
  unfold gRepr at q
  split at q
  · obtain ⟨v, rfl, rv⟩ := rel1 r
    rw [rel_int] at rv; subst rv
    split at q
    · rename_i hz
      exact .inl ⟨_, rfl, hz, q _ ι H (.refl _ _) L (rel_str.mpr rfl)⟩
    · exact q.elim
  · rename_i ds
    obtain ⟨v, rfl, rv⟩ := rel1 r
    cases e : pyD FUEL S (.tup ds) with
    | none => rw [e] at q; exact q.elim
    | some p =>
      rw [e] at q
      dsimp only at q
      have hd := py_dp L _ _ _ _ e rv
      obtain ⟨a, us, rfl, _, _⟩ := rel_tup.mp rv
      split at q
      · rename_i hz
        exact .inr ⟨a, p, rfl, hd, hz.1, hz.2.1, hz.2.2.1, by rw [lim_eq]; exact hz.2.2.2, q _ ι H (.refl _ _) L (rel_str.mpr rfl)⟩
      · exact q.elim
  · rename_i n
    obtain ⟨v, rfl, rv⟩ := rel1 r
    cases e : pyD FUEL S (.ob n) with
    | none => rw [e] at q; exact q.elim
    | some p =>
      rw [e] at q
      dsimp only at q
      have hd := py_dp L _ _ _ _ e rv
      obtain ⟨a, us, rfl⟩ := rel_ob.mp rv
      split at q
      · rename_i hz
        exact .inr ⟨a, p, rfl, hd, hz.1, hz.2.1, hz.2.2.1, by rw [lim_eq]; exact hz.2.2.2, q _ ι H (.refl _ _) L (rel_str.mpr rfl)⟩
      · exact q.elim
  · exact q.elim
theorem se_repr {e : Expr} {es : List Expr} {f : AF} {p : Pos} (hgd : X.A.guards = some []) (hu : X.A.units + 64 < cLine) (hm : X.mg "repr" = none) (ha : PA X (e :: es) (tA w f)) (gl : Gl X "repr" := by rfl) (hK : X.K = w.K := by rfl) (h3 : starEach (e :: es) X.env = (false, eval e X.env) :: starEach es X.env := by rfl) (h4 : (backTo pos (starEach es X.env)).any (·.1) = false := by rfl) :
    PE X (.Call (.Name "repr" p) (e :: es) [] pos) (tE w (eCall gRepr f)) :=
  se_b (SkE.call_repr_int.or (call_reprD hgd hu)) (rule_repr X.K hK) gl hm boot_repr' ha (by decide) (by decide) h3 h4
end
end Z

set_option Elab.async false
set_option linter.all false
set_option maxRecDepth 100000
set_option maxHeartbeats 1000000
namespace Z
open PySem L2 PySem.Spec PyProof.Rows

/-- an empty table -/
def tab0 : Obj := { cls := .none, data := .fields #[] }
/-- a def's code object c and its empty table P, at the head's end -/
structure TabRec (mg : Str → Option Value) (h : Heap) (x : Str) (c P : Addr) : Prop where
  func : ∃ a o fd, mg x = some (.ref a) ∧ h.get? a = some o ∧ o.data = .func fd ∧ fd.code = .ref c
  head : PySem.W.CodeHd h c P
  tab : h.get? P = some tab0
theorem law_callG {P : Program} {w : World} {K : PySem.W.Frag} {mg mb : Str → Option Value} {CX : CXT} {k : Nat} {fa a : Addr} {fd : FuncData} {x : Str} {sp : Sp} {s₁ : Shared} {vs : List Value} {ns : List Int} {cs : List (Addr × Addr)}
    (KX : K.In s₁.heap) (hns : s₁.heap.Ns mainGlobals mg) (hb : s₁.heap.Ns builtinsNs mb) (hbb : ∀ (x : Str), x ≠ "__name__" → mb x = bootBuiltins x) (hlim : s₁.heap.NoLimit) (hg : s₁.gens = #[])
    (ha : s₁.heap.get? a = some { cls := Value.type "list", data := Data.seq vs.toArray }) (hi : IntsAre vs ns) (hl : ns.length ≤ sizeLine) (hr : Room k callerA) (hka : List.lookup a K = none)
    (hT : ∀ p ∈ cs, s₁.heap.get? p.2 = some tab0) (nT : ∀ p ∈ cs, List.lookup p.2 K = none) (C : ∀ p ∈ cs, PySem.W.CodeHd s₁.heap p.1 p.2)
    (hbm : ∃ (bm : Addr) (ob : Obj), mg "__builtins__" = some (.ref bm) ∧ bm ≠ builtinsNs ∧ s₁.heap.get? bm = some ob ∧ ob.cls = .type "module" ∧ ob.dict = some builtinsNs ∧ ob.data = .plain)
    (F : ∀ (base : Heap), K.In base → base.Ns mainGlobals mg → (∀ p ∈ cs, GxR.TabB base mg p.1 p.2) → FnG P w K mg base CX k fa fd [x] sp) (hbind : ∀ (s : Shared) (u : Value), BindsTo s fd { pos := [u] } [(x, u)])
    (hsp : ∀ (H : Hp) (o : Obj), H a = some (.frz o (.lst (ns.map V.int))) → (∀ p ∈ cs, H p.2 = some (.tbl #[])) → sp [V.ref a] H (fun v _ => v = V.bl true) fun _ _ _ => False)
    (hCX : ∀ (H : Hp) (e : Value) (s' : Shared), CX [] H s₁ (fun _ _ _ => False) e s' → False) :
    codeAny (model P w) callerA (Code.call (Value.ref fa) { pos := [Value.ref a] }) (fun r s' => r = Except.ok (Flow.ret (Value.bool true)) ∧ OldK s₁.heap s'.heap ∧ s'.os = s₁.os ∧ AllBare s'.gens) s₁ := by
  have rv := vals_ints hi
  let ob : Obj := { cls := Value.type "list", data := Data.seq vs.toArray }
  let Ts : List Addr := cs.map (·.2)
  have inT : ∀ p ∈ cs, p.2 ∈ Ts := fun p hp => List.mem_map_of_mem hp
  have atT : ∀ b ∈ Ts, s₁.heap.get? b = some tab0 ∧ List.lookup b K = none := fun b m => by
    obtain ⟨p, hp, z⟩ := List.mem_map.mp m
    subst z; exact ⟨hT p hp, nT p hp⟩
  have naT : a ∉ Ts := fun m => by
    have q := (atT a m).1
    rw [ha] at q; cases q
  let H : Hp := fun b => if b = a then some (.frz ob (.lst (ns.map V.int))) else if b ∈ Ts then some (.tbl #[]) else none
  have hHa : H a = some (.frz ob (.lst (ns.map V.int))) := if_pos rfl
  have hHt : ∀ b ∈ Ts, H b = some (.tbl #[]) := fun b m => by
    have q : b ≠ a := fun z => naT (z ▸ m)
    show (if b = a then _ else if b ∈ Ts then _ else _) = _
    rw [if_neg q, if_pos m]
  have hHn : ∀ b, b ≠ a → b ∉ Ts → H b = none := fun b h m => by
    show (if b = a then _ else if b ∈ Ts then _ else _) = _
    rw [if_neg h, if_neg m]
  have hok : HOk P w H s₁.heap := by
    intro b u z
    by_cases e : b = a
    · subst e
      rw [hHa] at z; cases z
      exact ⟨ha, by rw [List.length_map]; exact hl, vs, 0, rv, ha⟩
    · by_cases m : b ∈ Ts
      · rw [hHt b m] at z; cases z
        exact (atT b m).1
      · rw [hHn b e m] at z; cases z
  -- what is neither the script nor a table isn't tracked
  have free_ : ∀ {b : Addr} {o : Obj}, s₁.heap.get? b = some o → (∀ n, o.data ≠ .seq vs.toArray n) → o.data ≠ .fields #[] → H b = none := fun {b o} e h1 h2 => by
    refine hHn b (fun z => ?_) fun m => ?_
    · subst z; rw [ha] at e; cases e; exact h1 _ rfl
    · rw [(atT b m).1] at e; cases e; exact h2 rfl
  have noA : ∀ {b : Addr} {o : Obj} {es ep}, s₁.heap.get? b = some o → o.data = Data.dict es ep → H b = none := fun {b o es ep} e d =>
    free_ e (fun n z => by rw [d] at z; cases z) fun z => by rw [d] at z; cases z
  have nsK : ∀ {b : Addr} {m : Str → Option Value}, s₁.heap.Ns b m → (hidT s₁.heap H).Ns b m := by
    rintro b m ⟨o, es, ep, e, d, r⟩
    exact ⟨o, es, ep, hidT_get e (noA e d), d, r⟩
  have hKb : K.In (hidT s₁.heap H) := by
    intro b o e
    refine hidT_get (KX b o e) (hHn b (fun z => ?_) fun m => ?_)
    · subst z; rw [hka] at e; cases e
    · rw [(atT b m).2] at e; cases e
  have hM : L2.Mod K mg (hidT s₁.heap H) := by
    obtain ⟨mc, h1, h2⟩ := hlim
    exact ⟨hKb, nsK hns, ⟨mb, nsK hb, hbb⟩, ⟨mc, nsK h1, h2⟩⟩
  have TB : ∀ p ∈ cs, GxR.TabB (hidT s₁.heap H) mg p.1 p.2 := fun p hp => by
    have tp := hT p hp
    refine ⟨?_, ?_, fun z => ?_⟩
    · obtain ⟨o, us, q1, q2, q3, q4, q5, q6, q7, e1, r1, r2, r3, rest⟩ := C p hp
      refine ⟨o, us, q1, q2, q3, q4, q5, q6, q7, hidT_get e1 (free_ e1 (fun n z => ?_) fun z => ?_), r1, r2, r3, rest⟩
      · rw [r2] at z; cases z
      · rw [r2] at z; cases z; cases r3
    · obtain ⟨bm, o, b1, b2, b3, b4, b5, b6⟩ := hbm
      refine ⟨bm, o, b1, b2, fun q => ?_, fun q => ?_, hidT_get b3 (free_ b3 (fun n z => ?_) fun z => ?_), b4, b5, b6⟩
      · obtain ⟨o2, es, ep, e, d, _⟩ := hns
        subst q
        rw [e] at b3; cases b3
        rw [d] at b6; cases b6
      · subst q
        rw [tp] at b3; cases b3; cases b6
      · rw [b6] at z; cases z
      · rw [b6] at z; cases z
    · obtain ⟨o2, es, ep, e, d, _⟩ := hns
      rw [z, tp] at e; cases e; cases d
  have e0 : Env0 P w K mg (hidT s₁.heap H) callerA [] s₁ H :=
    ⟨rfl, hM, fun b o e => of_hidT e, Nat.le_of_eq (hidT_size s₁.heap H), trivial, (fun b hb => nomatch hb), hok, AllBare.of_eq hg⟩
  refine codeAny_mono ((F (hidT s₁.heap H) hKb (nsK hns) TB).run callerA [] s₁ H { pos := [Value.ref a] } [Value.ref a] [V.ref a] (fun v _ => v = V.bl true) (fun _ _ _ => False) hr rfl e0 (hbind s₁ (Value.ref a)) (Paired.cons rfl Paired.nil) (hsp H ob hHa fun p hp => hHt _ (inT p hp))) fun r s' h => ?_
  cases r with
  | error e => exact (hCX H e s' h).elim
  | ok fl =>
    cases fl with
    | next => exact h.elim
    | brk => exact h.elim
    | cont => exact h.elim
    | ret u =>
      obtain ⟨v, H', os, bare, un, hok', r', q⟩ := h
      subst q
      have e : u = Value.bool true := r'
      subst e
      have keep : ∀ b o, b ∉ Ts → s₁.heap.get? b = some o → s'.heap.get? b = some o := fun b o m e => by
        by_cases q : b = a
        · subst q
          have z2 := un.frzs b _ _ hHa
          obtain ⟨e1, _⟩ := hok b _ hHa
          obtain ⟨e2, _⟩ := hok' b _ z2
          rw [e1] at e; cases e
          exact e2
        · exact un.keep b o e (hHn b q m) (fun z => by cases z) (fun z => by cases z)
      have grown : ∀ b ∈ Ts, ∃ more : Array Value, s'.heap.get? b = some { cls := .none, data := .fields more } := fun b m => by
        obtain ⟨more, z⟩ := un.tbls b #[] (hHt b m)
        exact ⟨_, hok' b _ z⟩
      refine ⟨rfl, ⟨fun b o e => ?_, fun b o e => ?_⟩, os, bare⟩
      · by_cases m : b ∈ Ts
        · obtain ⟨more, g⟩ := grown b m
          obtain ⟨p, hp, z⟩ := List.mem_map.mp m
          subst z
          have tp := hT p hp
          rw [tp] at e; cases e
          exact .inr (.inl ⟨((C p hp).tab tp).isCodeTable, rfl, #[], more, rfl, by rw [g, Array.empty_append]; rfl⟩)
        · exact .inl (keep b o m e)
      · by_cases m : b ∈ Ts
        · obtain ⟨more, g⟩ := grown b m
          exact ⟨_, g⟩
        · exact ⟨o, keep b o m e⟩
theorem walk_ofG {l : PySem.W.OpenLaw} {n k : Nat} {q : Program} {loose : List Str} {XP : (Str → Option Value) → Heap → Prop} {YP : World → Heap → Prop} {d : DefRec} {K : Params → PySem.W.Frag} {CX : World → CXT} {x : Str} (tn : List Str)
    (hn : l.most = some n) (hn2 : n ≤ sizeLine) (hdf : d.params.defaults = []) (hr : Room k callerA) (htn : (tn.all fun y => (recsOf q).any fun e => e.name == y) = true) (hY : ∀ (w : World) (h : Heap), YP w h → (K w.params).In h)
    (hnl : ∀ (w : World) (a : Addr) (o : Obj), List.lookup a (K w.params) = some o → o.cls ≠ .type "list" ∧ o.data ≠ .fields #[])
    (F : ∀ (w : World) (mg : Str → Option Value) (fa : Addr) (h : Heap), (K w.params).In h → h.Ns mainGlobals mg → mg d.name = some (Value.ref fa) → (∀ y ∈ tn, ∃ c P, TabRec mg h y c P) →
      ∃ (fd : FuncData) (cs : List (Addr × Addr)) (sp : Sp), (∀ p ∈ cs, PySem.W.CodeHd h p.1 p.2 ∧ h.get? p.2 = some tab0) ∧ (∀ (s : Shared) (u : Value), BindsTo s fd { pos := [u] } [(x, u)]) ∧
        (∀ (H : Hp) (a : Addr) (o : Obj) (ns : List Int), ns.length ≤ n → H a = some (.frz o (.lst (ns.map V.int))) → (∀ p ∈ cs, H p.2 = some (.tbl #[])) → sp [V.ref a] H (fun v _ => v = V.bl true) fun _ _ _ => False) ∧
        ∀ (base : Heap), (K w.params).In base → base.Ns mainGlobals mg → (∀ p ∈ cs, GxR.TabB base mg p.1 p.2) → FnG l.prog w (K w.params) mg base (CX w) k fa fd [x] sp)
    (hCX : ∀ (w : World) (H : Hp) (s : Shared) (e : Value) (s' : Shared), CX w [] H s (fun _ _ _ => False) e s' → False) :
    PySem.W.WalkO q loose XP YP l.row.toRowW d [] fun f vs => call f vs :=
  Att.attach_call hn hdf fun w s₀ s₁ mg mb fa o pm cd doc a vs ns G Y ho hd hcd hmg hobj hints hlen hg => by
    have KX := hY w s₁.heap Y
    obtain ⟨fd, cs, sp, hcs, hb, hsp, hF⟩ := F w mg fa s₁.heap KX G.T.g hmg fun y hy => by
      have := List.all_eq_true.mp htn y hy
      obtain ⟨dL, hm, hn1⟩ := List.any_eq_true.mp this
      have e1 : dL.name = y := beq_iff_eq.mp hn1
      obtain ⟨a', o', fd', c', P', h1, h2, h3, h4, h5, h6⟩ := G.T.tab dL hm
      rw [e1] at h1
      exact ⟨c', P', ⟨a', o', fd', h1, h2, h3, h4⟩, .of h5 h6, h6.2⟩
    have hka : List.lookup a (K w.params) = none := by
      cases e : List.lookup a (K w.params) with
      | none => rfl
      | some o =>
        have := KX a o e
        rw [hobj] at this; cases this
        exact ((hnl w a _ e).1 rfl).elim
    have hkt : ∀ p ∈ cs, List.lookup p.2 (K w.params) = none := fun p hp => by
      cases e : List.lookup p.2 (K w.params) with
      | none => rfl
      | some o =>
        have := KX p.2 o e
        rw [(hcs p hp).2] at this; cases this
        exact ((hnl w _ _ e).2 rfl).elim
    exact law_callG KX G.T.g G.T.b G.T.builtins G.T.nolimit hg hobj hints (Nat.le_trans hlen hn2) hr hka (fun p hp => (hcs p hp).2) hkt (fun p hp => (hcs p hp).1) G.T.bmain hF hb (fun H o z t => hsp H a o ns hlen z t) fun H e s' => hCX w H s₁ e s'
/-- the law's promise from its value over the script -/
theorem sp_law [Tabs] {K : PySem.W.Frag} {CA : ClsAt} {fn : Fn} {H : Hp} {a : Addr} {o : Obj} {ns : List Int} (hH : H a = some (.frz o (.lst (ns.map V.int)))) (hT : ∀ p ∈ Tabs.at_, H p = some (.tbl #[])) {S' : Store} (h : fn [.ob 0] [.frz (ns.map D.int)] = .ok (.bl true) S') :
    spF K CA 1 fn [V.ref a] H (fun v _ => v = V.bl true) fun _ _ _ => False := by
  refine ⟨rfl, [a], [.ob 0], [.frz (ns.map D.int)], ⟨rfl, by simp, fun p hp => ⟨#[], hT p hp, trivial⟩, fun n b u e1 e2 => ?_⟩, relL_cons.mpr ⟨_, _, rfl, rel_ob.mpr ⟨a, rfl, rfl⟩, relL_nil.mpr rfl⟩, ?_⟩
  · cases n with
    | succ n => simp at e1
    | zero =>
      simp at e1 e2
      subst e1; subst e2
      exact ⟨o, _, hH, RelL.of_ints ns⟩
  · rw [h]
    exact fun v ι' H' _ _ r => rel_bl.mp r
end Z

set_option Elab.async false
set_option linter.all false
set_option maxRecDepth 100000
set_option maxHeartbeats 1000000
namespace Z
variable [Tabs]
open PySem L2 PySem.Spec PyProof.Rows
/-- a zip whose last tuple is held by others -/
abbrev IsZipH (h : Heap) (z TI TO T0 : Addr) (b : Bool) : Prop := h.get? z = some { cls := Value.type "zip", data := Data.fields #[rawInt (T0 : Nat), Value.bool b, Value.bool false, Value.ref TI, Value.ref TO] }
theorem zipH_next_item {prog : Program} {w : World} {A : Around} {E : Value → Shared → Prop} {s : Shared} {z TI TO i1 i2 T0 : Addr} {b : Bool} {o0 : Obj} {fp1 fp2 : List Addr} {n1 n2 i : Nat} {P1 P2 : Nat → Value → Prop} {St1 St2 : Nat → Heap → Prop} {Q : Value → Shared → Prop}
    (S : ZipSep2 z TI TO i1 i2 fp1 fp2) (D1 : Draws prog w A i1 fp1 n1 P1 St1) (D2 : Draws prog w A i2 fp2 n2 P2 St2) (hz : IsZipH s.heap z TI TO T0 b) (h0 : s.heap.get? T0 = some o0)
    (hTI : IsTupOf2 s.heap TI (Value.ref i1) (Value.ref i2)) (st1 : St1 i s.heap) (st2 : St2 i s.heap) (l1 : i < n1) (l2 : i < n2)
    (hQ : ∀ (x1 x2 : Value) (h' : Heap) (tk : Nat), P1 i x1 → P2 i x2 → IsZipH h' z TI TO T0 true → St1 (i + 1) h' → St2 (i + 1) h' → IsTupOf2 h' s.heap.objs.size x1 x2 → h'.objs.size = s.heap.objs.size + 1 →
      (∀ (c : Addr) (o : Obj), c ≠ z → c ≠ i1 → c ≠ i2 → s.heap.get? c = some o → h'.get? c = some o) → Q (Value.ref s.heap.objs.size) { heap := h', gens := s.gens, drawn := s.drawn, toks := tk, os := s.os }) :
    wpAny (model prog w) A (Builtin.«zip.__next__» { pos := [Value.ref z] }) (fun fin s' => ∃ v, fin = Fin.done (Flow.ret v) ∧ Q v s') E s := by
  obtain ⟨hp, g, d, tk0, os⟩ := s
  dsimp only at hz h0 hTI st1 st2 hQ
  have fin : ∀ (h1 : Heap) (body : Value → (Option PySem.Fin × Array Value) → Sem (ForInStep (Option PySem.Fin × Array Value))) (R : (Option PySem.Fin × Array Value) → Shared → Prop), IsZipH h1 z TI TO T0 true → Heap.SameBut z hp h1 →
      (∀ it (a : Array Value), ∃ k : Option Value → Sem (ForInStep (Option PySem.Fin × Array Value)), body it (none, a) = bind (holding a.toList (bind (Builtin.SmallTypes.nextOf it) fun v => pure (some v))) k ∧ ∀ x, k (some x) = pure (ForInStep.yield (none, a.push x))) →
      (∀ (x1 x2 : Value) (h3 : Heap) (tk : Nat), P1 i x1 → P2 i x2 → IsZipH h3 z TI TO T0 true → St1 (i + 1) h3 → St2 (i + 1) h3 → h3.objs.size = hp.objs.size → (∀ (c : Addr) (o : Obj), c ≠ z → c ≠ i1 → c ≠ i2 → hp.get? c = some o → h3.get? c = some o) →
        R (none, #[x1, x2]) { heap := h3, gens := g, drawn := d, toks := tk, os := os }) →
      wpAny (model prog w) A (forIn #[Value.ref i1, Value.ref i2] ((none : Option PySem.Fin), (#[] : Array Value)) body) R E { heap := h1, gens := g, drawn := d, toks := tk0, os := os } := by
    intro h1 body R hz1 hs1 hb hR
    have e1 : St1 i h1 := D1.over st1 hs1 S.zf1
    have e2 : St2 i h1 := D2.over st2 hs1 S.zf2
    rw [← Array.forIn_toList]
    show wpAny _ _ (forIn [Value.ref i1, Value.ref i2] _ body) _ _ _
    rw [List.forIn_cons]
    obtain ⟨k1, hk1, hk1'⟩ := hb (Value.ref i1) #[]
    rw [hk1]
    refine wpAny_bind (wpAny_bind (wpAny_holding (wpAny_bind (D1.item i _ _ E l1 e1 fun x1 h2 tk2 p1 f1 b2 => wpAny_pure ?_))))
    rw [hk1']
    refine wpAny_pure ?_
    dsimp only
    rw [List.forIn_cons]
    obtain ⟨k2, hk2, hk2'⟩ := hb (Value.ref i2) (#[].push x1)
    rw [hk2]
    refine wpAny_bind (wpAny_bind (wpAny_holding (wpAny_bind (D2.item i _ _ E l2 (D2.over e2 b2 S.sep1_2) fun x2 h3 tk3 p2 f2 b3 => wpAny_pure ?_))))
    rw [hk2']
    refine wpAny_pure ?_
    dsimp only
    rw [List.forIn_nil]
    refine wpAny_pure ?_
    have z3 : h3.objs.size = hp.objs.size := by rw [b3.1, b2.1, hs1.1]
    have nz1 : z ≠ i1 := fun q => S.zf1 (q ▸ S.mem1)
    have nz2 : z ≠ i2 := fun q => S.zf2 (q ▸ S.mem2)
    have back : ∀ (c : Addr) (o : Obj), c ≠ i1 → c ≠ i2 → h1.get? c = some o → h3.get? c = some o := fun c o n1 n2 e => by
      rw [b3.2 c n2, b2.2 c n1]; exact e
    refine hR x1 x2 h3 tk3 p1 p2 (back z _ nz1 nz2 hz1) ?_ f2 z3 fun c o n0 n1 n2 e => back c o n1 n2 (by rw [hs1.2 c n0]; exact e)
    refine D1.frame _ _ _ f1 fun b hb o e => ?_
    rw [b3.2 b (fun q => S.sep2_1 (q ▸ hb))]; exact e
  have tail : ∀ (x1 x2 : Value) (h3 : Heap) (tk : Nat), P1 i x1 → P2 i x2 → IsZipH h3 z TI TO T0 true → St1 (i + 1) h3 → St2 (i + 1) h3 → h3.objs.size = hp.objs.size → (∀ (c : Addr) (o : Obj), c ≠ z → c ≠ i1 → c ≠ i2 → hp.get? c = some o → h3.get? c = some o) →
      wpAny (model prog w) A (bind (newTuple [x1, x2]) fun v => ret v) (fun fin s' => ∃ v, fin = Fin.done (Flow.ret v) ∧ Q v s') E { heap := h3, gens := g, drawn := d, toks := tk, os := os } := by
    intro x1 x2 h3 tk p1 p2 hz3 f1 f2 z3 back
    refine wpAny_bind (wpAny_newTuple ?_ (by show 2 ≤ sizeLine; decide))
    refine wpAny_pure ⟨_, rfl, ?_⟩
    show Q (Value.ref h3.objs.size) { heap := h3.push _, gens := g, drawn := d, toks := tk, os := os }
    rw [z3]
    refine hQ x1 x2 _ tk p1 p2 (Heap.get?_push_of_some _ hz3) ?_ ?_ ?_ ?_ fun c o n0 n1 n2 e => Heap.get?_push_of_some _ (back c o n0 n1 n2 e)
    · exact D1.frame _ _ _ f1 fun b hb o e => Heap.get?_push_of_some _ e
    · exact D2.frame _ _ _ f2 fun b hb o e => Heap.get?_push_of_some _ e
    · rw [← z3]; exact Heap.get?_push_size h3 rfl
    · rw [Heap.size_push, z3]
  unfold Builtin.«zip.__next__»
  refine wpAny_bind (wpAny_pure ?_)
  dsimp only
  refine wpAny_bind (wpAny_field (x := Value.bool false) hz rfl rfl ?_)
  refine wpAny_bind (wpAny_field (x := Value.ref TI) hz rfl rfl ?_)
  refine wpAny_bind (wpAny_seqItems hTI rfl ?_)
  dsimp only
  rw [if_neg (show ¬ (#[Value.ref i1, Value.ref i2] : Array Value).isEmpty = true by intro q; cases q)]
  unfold Builtin.SmallTypes.ownedTupleIsFree
  refine wpAny_bind (wpAny_bind (wpAny_field hz rfl rfl ?_))
  show wpAny _ _ (bind (loadIfAlive ((T0 : Int)).toNat) _) _ _ _
  refine wpAny_bind (PySem.W.kdx_alive h0 ?_)
  rw [if_neg (show ¬ (some o0).isNone = true by intro q; cases q)]
  refine wpAny_bind (wpAny_field (x := Value.bool b) hz rfl rfl ?_)
  dsimp only
  cases b with
  | true =>
    rw [if_neg (show ¬ ((Value.bool true != Value.bool true) = true) by decide)]
    refine wpAny_pure ?_
    rw [if_neg Bool.false_ne_true]
    refine wpAny_bind (fin hp _ _ hz ⟨rfl, fun _ _ => rfl⟩ (fun it a => ⟨_, rfl, fun x => rfl⟩) fun x1 x2 h3 tk p1 p2 hz3 f1 f2 z3 back => ?_)
    exact tail x1 x2 h3 tk p1 p2 hz3 f1 f2 z3 back
  | false =>
    rw [if_pos (show ((Value.bool false != Value.bool true) = true) by decide)]
    refine wpAny_bind (wpAny_setField_rec hz (by simp) fun h1 hz1 hs1 => ?_)
    refine wpAny_pure ?_
    rw [if_neg Bool.false_ne_true]
    refine wpAny_bind (fin h1 _ _ hz1 hs1 (fun it a => ⟨_, rfl, fun x => rfl⟩) fun x1 x2 h3 tk p1 p2 hz3 f1 f2 z3 back => ?_)
    exact tail x1 x2 h3 tk p1 p2 hz3 f1 f2 z3 back
theorem zipH_next_end {prog : Program} {w : World} {A : Around} {E : Value → Shared → Prop} {s : Shared} {z TI TO i1 i2 T0 : Addr} {b : Bool} {o0 : Obj} {fp1 fp2 : List Addr} {n1 n2 i : Nat} {P1 P2 : Nat → Value → Prop} {St1 St2 : Nat → Heap → Prop} {Q : PySem.Fin → Shared → Prop}
    (S : ZipSep2 z TI TO i1 i2 fp1 fp2) (D1 : Draws prog w A i1 fp1 n1 P1 St1) (D2 : Draws prog w A i2 fp2 n2 P2 St2) (hz : IsZipH s.heap z TI TO T0 b) (h0 : s.heap.get? T0 = some o0)
    (hTI : IsTupOf2 s.heap TI (Value.ref i1) (Value.ref i2)) (st1 : St1 i s.heap) (st2 : St2 i s.heap) (l1 : i ≤ n1) (l2 : i ≤ n2) (he : i = n1 ∨ i = n2)
    (hE : ∀ (h' : Heap) (tk : Nat) (e : Addr), (∀ (c : Addr) (o : Obj), c ≠ z → c ≠ i1 → c ≠ i2 → s.heap.get? c = some o → h'.get? c = some o) → (∃ o, h'.get? e = some o ∧ o.cls = Value.type "StopIteration") → E (Value.ref e) { heap := h', gens := s.gens, drawn := s.drawn, toks := tk, os := s.os }) :
    wpAny (model prog w) A (Builtin.«zip.__next__» { pos := [Value.ref z] }) Q E s := by
  obtain ⟨hp, g, d, tk0, os⟩ := s
  dsimp only at hz h0 hTI st1 st2 hE
  have fin : ∀ (h1 : Heap) (body : Value → (Option PySem.Fin × Array Value) → Sem (ForInStep (Option PySem.Fin × Array Value))) (R : (Option PySem.Fin × Array Value) → Shared → Prop), IsZipH h1 z TI TO T0 true → Heap.SameBut z hp h1 →
      (∀ it (a : Array Value), ∃ k : Option Value → Sem (ForInStep (Option PySem.Fin × Array Value)), body it (none, a) = bind (holding a.toList (bind (Builtin.SmallTypes.nextOf it) fun v => pure (some v))) k ∧ ∀ x, k (some x) = pure (ForInStep.yield (none, a.push x))) →
      wpAny (model prog w) A (forIn #[Value.ref i1, Value.ref i2] ((none : Option PySem.Fin), (#[] : Array Value)) body) R E { heap := h1, gens := g, drawn := d, toks := tk0, os := os } := by
    intro h1 body R hz1 hs1 hb
    have e1 : St1 i h1 := D1.over st1 hs1 S.zf1
    have e2 : St2 i h1 := D2.over st2 hs1 S.zf2
    rw [← Array.forIn_toList]
    show wpAny _ _ (forIn [Value.ref i1, Value.ref i2] _ body) _ _ _
    rw [List.forIn_cons]
    obtain ⟨k1, hk1, hk1'⟩ := hb (Value.ref i1) #[]
    rw [hk1]
    by_cases q1 : i = n1
    · subst q1
      refine wpAny_bind (wpAny_bind (wpAny_holding (wpAny_bind (D1.done _ _ E e1 fun h2 e b2 ho => ?_))))
      exact hE h2 tk0 e (fun c o n0 m1 m2 q => b2 c o m1 (by rw [hs1.2 c n0]; exact q)) ho
    · have q2 : i = n2 := he.resolve_left q1
      subst q2
      refine wpAny_bind (wpAny_bind (wpAny_holding (wpAny_bind (D1.item i _ _ E (by omega) e1 fun x1 h2 tk2 p1 f1 b2 => wpAny_pure ?_))))
      rw [hk1']
      refine wpAny_pure ?_
      dsimp only
      rw [List.forIn_cons]
      obtain ⟨k2, hk2, hk2'⟩ := hb (Value.ref i2) (#[].push x1)
      rw [hk2]
      refine wpAny_bind (wpAny_bind (wpAny_holding (wpAny_bind (D2.done _ _ E (D2.over e2 b2 S.sep1_2) fun h3 e b3 ho => ?_))))
      exact hE h3 tk2 e (fun c o n0 m1 m2 q => b3 c o m2 (by rw [b2.2 c m1, hs1.2 c n0]; exact q)) ho
  unfold Builtin.«zip.__next__»
  refine wpAny_bind (wpAny_pure ?_)
  dsimp only
  refine wpAny_bind (wpAny_field (x := Value.bool false) hz rfl rfl ?_)
  refine wpAny_bind (wpAny_field (x := Value.ref TI) hz rfl rfl ?_)
  refine wpAny_bind (wpAny_seqItems hTI rfl ?_)
  dsimp only
  rw [if_neg (show ¬ (#[Value.ref i1, Value.ref i2] : Array Value).isEmpty = true by intro q; cases q)]
  unfold Builtin.SmallTypes.ownedTupleIsFree
  refine wpAny_bind (wpAny_bind (wpAny_field hz rfl rfl ?_))
  show wpAny _ _ (bind (loadIfAlive ((T0 : Int)).toNat) _) _ _ _
  refine wpAny_bind (PySem.W.kdx_alive h0 ?_)
  rw [if_neg (show ¬ (some o0).isNone = true by intro q; cases q)]
  refine wpAny_bind (wpAny_field (x := Value.bool b) hz rfl rfl ?_)
  dsimp only
  cases b with
  | true =>
    rw [if_neg (show ¬ ((Value.bool true != Value.bool true) = true) by decide)]
    refine wpAny_pure ?_
    rw [if_neg Bool.false_ne_true]
    exact wpAny_bind (fin hp _ _ hz ⟨rfl, fun _ _ => rfl⟩ (fun it a => ⟨_, rfl, fun x => rfl⟩))
  | false =>
    rw [if_pos (show ((Value.bool false != Value.bool true) = true) by decide)]
    refine wpAny_bind (wpAny_setField_rec hz (by simp) fun h1 hz1 hs1 => ?_)
    refine wpAny_pure ?_
    rw [if_neg Bool.false_ne_true]
    exact wpAny_bind (fin h1 _ _ hz1 hs1 (fun it a => ⟨_, rfl, fun x => rfl⟩))
/-- where a zip stands whose tuples are kept: fresh, or the last one held -/
def ZSt (z TI TO i1 i2 : Addr) (St1 St2 : Nat → Heap → Prop) (i : Nat) (h : Heap) : Prop :=
  (((∃ a1 a2, IsTupOf2 h TO a1 a2) ∧ IsZip h z TI TO Value.none) ∨ ∃ T0 b o0, T0 ≠ z ∧ T0 ≠ i1 ∧ T0 ≠ i2 ∧ IsZipH h z TI TO T0 b ∧ h.get? T0 = some o0) ∧ IsTupOf2 h TI (Value.ref i1) (Value.ref i2) ∧ St1 i h ∧ St2 i h
theorem zst_item {prog : Program} {w : World} {A : Around} {E : Value → Shared → Prop} {s : Shared} {z TI TO i1 i2 : Addr} {fp1 fp2 : List Addr} {n1 n2 i : Nat} {P1 P2 : Nat → Value → Prop} {St1 St2 : Nat → Heap → Prop} {Q : Option Value → Shared → Prop}
    (S : ZipSep2 z TI TO i1 i2 fp1 fp2) (D1 : Draws prog w A.in1 i1 fp1 n1 P1 St1) (D2 : Draws prog w A.in1 i2 fp2 n2 P2 St2) (st : ZSt z TI TO i1 i2 St1 St2 i s.heap) (l1 : i < n1) (l2 : i < n2)
    (hQ : ∀ (T : Addr) (x1 x2 : Value) (h' : Heap) (tk : Nat), P1 i x1 → P2 i x2 → ZSt z TI TO i1 i2 St1 St2 (i + 1) h' → IsTupOf2 h' T x1 x2 → s.heap.objs.size ≤ T →
      (∀ (c : Addr) (o : Obj), c ≠ z → c ≠ TO → c ≠ i1 → c ≠ i2 → s.heap.get? c = some o → h'.get? c = some o) → Q (some (Value.ref T)) { heap := h', gens := s.gens, drawn := s.drawn, toks := tk, os := s.os }) :
    wpAny (model prog w) A (pyNext (Value.ref z)) Q E s := by
  obtain ⟨hf, hTI, st1, st2⟩ := st
  rcases hf with ⟨⟨a1, a2, hTO⟩, hz⟩ | ⟨T0, b, o0, m0, m1, m2, hz, h0⟩
  · have lz := Heap.lt_size hz
    obtain ⟨oi1, hi1⟩ := D1.live i _ st1
    obtain ⟨oi2, hi2⟩ := D2.live i _ st2
    refine wpAny_pyNext_zipD2_item S D1 D2 hz hTI hTO st1 st2 l1 l2 fun x1 x2 h' tk p1 p2 hz' hTO' f1 f2 hT hs hk => ?_
    refine hQ _ x1 x2 h' tk p1 p2 ⟨.inr ⟨_, false, _, Nat.ne_of_gt lz, Nat.ne_of_gt (Heap.lt_size hi1), Nat.ne_of_gt (Heap.lt_size hi2), hz', hT⟩, hk TI _ S.TIz S.TITO S.TIi1 S.TIi2 hTI, f1, f2⟩ hT (Nat.le_refl _) hk
  · have hT : s.TypeIs (Value.ref z) "zip" := ⟨_, hz, rfl⟩
    refine wpAny_bind (wpAny_attempt (wpAny_callSpecial?_slot hT F.slot_zip_next (wpAny_call_entry F.slot_zip_next hT F.entry_zip_next ?_ (F.args_zip_next_1 (Value.ref z)))))
    refine zipH_next_item (Q := fun v s' => wpAny (model prog w) A _ Q E s') S D1 D2 hz h0 hTI st1 st2 l1 l2 fun x1 x2 h' tk p1 p2 hz' f1 f2 hT' hs hk => ?_
    exact wpAny_pure (hQ _ x1 x2 h' tk p1 p2 ⟨.inr ⟨T0, true, o0, m0, m1, m2, hz', hk T0 o0 m0 m1 m2 h0⟩, hk TI _ S.TIz S.TIi1 S.TIi2 hTI, f1, f2⟩ hT' (Nat.le_refl _) fun c o c1 c2 c3 c4 e => hk c o c1 c3 c4 e)
theorem zst_end {prog : Program} {w : World} {A : Around} {E : Value → Shared → Prop} {s : Shared} {z TI TO i1 i2 : Addr} {fp1 fp2 : List Addr} {n1 n2 i : Nat} {P1 P2 : Nat → Value → Prop} {St1 St2 : Nat → Heap → Prop} {Q : Option Value → Shared → Prop}
    (S : ZipSep2 z TI TO i1 i2 fp1 fp2) (D1 : Draws prog w A.in1 i1 fp1 n1 P1 St1) (D2 : Draws prog w A.in1 i2 fp2 n2 P2 St2) (st : ZSt z TI TO i1 i2 St1 St2 i s.heap) (l1 : i ≤ n1) (l2 : i ≤ n2) (he : i = n1 ∨ i = n2)
    (hQ : ∀ (h' : Heap) (tk : Nat), (∀ (c : Addr) (o : Obj), c ≠ z → c ≠ TO → c ≠ i1 → c ≠ i2 → s.heap.get? c = some o → h'.get? c = some o) → Q none { heap := h', gens := s.gens, drawn := s.drawn, toks := tk, os := s.os }) :
    wpAny (model prog w) A (pyNext (Value.ref z)) Q E s := by
  obtain ⟨hf, hTI, st1, st2⟩ := st
  rcases hf with ⟨⟨a1, a2, hTO⟩, hz⟩ | ⟨T0, b, o0, m0, m1, m2, hz, h0⟩
  · exact wpAny_pyNext_zipD2_end S D1 D2 hz hTI hTO st1 st2 l1 l2 he hQ
  · have hT : s.TypeIs (Value.ref z) "zip" := ⟨_, hz, rfl⟩
    refine wpAny_bind (wpAny_attempt (wpAny_callSpecial?_slot hT F.slot_zip_next (wpAny_call_entry F.slot_zip_next hT F.entry_zip_next ?_ (F.args_zip_next_1 (Value.ref z)))))
    refine zipH_next_end S D1 D2 hz h0 hTI st1 st2 l1 l2 he fun h' tk e hk ho => ?_
    obtain ⟨o, ho, hc⟩ := ho
    exact wpAny_bind (wpAny_isInstance ⟨o, ho, hc⟩ isSubtype_stop (wpAny_pure (hQ h' tk fun c o c1 c2 c3 c4 e => hk c o c1 c3 c4 e)))
end Z

set_option Elab.async false
set_option linter.all false
set_option maxRecDepth 100000
set_option maxHeartbeats 1000000
namespace Z
variable [Tabs]
open PySem L2 PySem.Spec PyProof.Rows
theorem zip_nolen : typeLookup (Value.type "zip") "__len__" = pure none := by
  rw [typeLookup_type, builtinLookup_eq_fast]
  rfl
theorem zip_nohint : typeLookup (Value.type "zip") "__length_hint__" = pure none := by
  rw [typeLookup_type, builtinLookup_eq_fast]
  rfl
/-- the tuples that a list of a zip's tuples holds -/
structure Kept (base : Nat) (P1 P2 : Nat → Value → Prop) (h : Heap) (acc : Array Value) (as : List Addr) : Prop where
  eq : acc.toList = as.map Value.ref
  up : as.Pairwise (· < ·)
  big : ∀ t ∈ as, base ≤ t
  at' : ∀ (j : Nat) (t : Addr), as[j]? = some t → ∃ x1 x2, P1 j x1 ∧ P2 j x2 ∧ IsTupOf2 h t x1 x2
theorem Kept.keep {base : Nat} {P1 P2 : Nat → Value → Prop} {h h' : Heap} {acc : Array Value} {as : List Addr} (k : Kept base P1 P2 h acc as) (hk : ∀ t o, base ≤ t → h.get? t = some o → h'.get? t = some o) : Kept base P1 P2 h' acc as :=
  ⟨k.eq, k.up, k.big, fun j t e => by
    obtain ⟨x1, x2, p1, p2, hT⟩ := k.at' j t e
    exact ⟨x1, x2, p1, p2, hk t _ (k.big t (List.mem_of_getElem? e)) hT⟩⟩
section
variable {prog : Program} {w : World} {z TI TO i1 i2 L : Addr} {fp1 fp2 : List Addr} {n1 n2 : Nat} {P1 P2 : Nat → Value → Prop} {St1 St2 : Nat → Heap → Prop}
theorem ZSt.off {prog : Program} {w : World} {A : Around} (D1 : Draws prog w A i1 fp1 n1 P1 St1) (D2 : Draws prog w A i2 fp2 n2 P2 St2) {i : Nat} {h h' : Heap} (st : ZSt z TI TO i1 i2 St1 St2 i h) (lz : L ≠ z) (lTI : L ≠ TI) (lTO : L ≠ TO) (l1 : L ∉ fp1) (l2 : L ∉ fp2)
    (hk : ∀ b o, b ≠ L → h.get? b = some o → h'.get? b = some o) (hL : ∃ o, h'.get? L = some o) : ZSt z TI TO i1 i2 St1 St2 i h' := by
  obtain ⟨hf, hTI, st1, st2⟩ := st
  refine ⟨?_, hk _ _ (Ne.symm lTI) hTI, D1.frame _ _ _ st1 fun b hb o e => hk b o (fun q => l1 (q ▸ hb)) e, D2.frame _ _ _ st2 fun b hb o e => hk b o (fun q => l2 (q ▸ hb)) e⟩
  rcases hf with ⟨⟨a1, a2, hTO⟩, hz⟩ | ⟨T0, b, o0, m0, m1, m2, hz, h0⟩
  · exact .inl ⟨⟨a1, a2, hk _ _ (Ne.symm lTO) hTO⟩, hk _ _ (Ne.symm lz) hz⟩
  · by_cases q : T0 = L
    · subst q
      obtain ⟨o, ho⟩ := hL
      exact .inr ⟨T0, b, o, m0, m1, m2, hk _ _ (Ne.symm lz) hz, ho⟩
    · exact .inr ⟨T0, b, o0, m0, m1, m2, hk _ _ (Ne.symm lz) hz, hk _ _ q h0⟩
theorem zip_loop {A : Around} {R : Result → Shared → Prop} (S : ZipSep2 z TI TO i1 i2 fp1 fp2) (D1 : Draws prog w A.in1.in1 i1 fp1 n1 P1 St1) (D2 : Draws prog w A.in1.in1 i2 fp2 n2 P2 St2) (hn : min n1 n2 ≤ sizeLine) (lz : L ≠ z) (lTI : L ≠ TI) (lTO : L ≠ TO) (l1 : L ∉ fp1) (l2 : L ∉ fp2)
    (base : Nat) (bz : z < base) (bTO : TO < base) (b1 : i1 < base) (b2 : i2 < base) (bL : L < base) (res : Value) : ∀ (k i : Nat) (s : Shared) (acc : Array Value) (c : Nat) (as : List Addr), min n1 n2 - i = k → i ≤ min n1 n2 → base ≤ s.heap.objs.size → ZSt z TI TO i1 i2 St1 St2 i s.heap →
      s.heap.get? L = some { cls := Value.type "list", data := Data.seq acc c } → as.length = i → Kept base P1 P2 s.heap acc as →
      (∀ (s' : Shared) (acc' : Array Value) (c' : Nat) (as' : List Addr), s'.gens = s.gens → s'.drawn = s.drawn → s'.os = s.os → (∀ b o, b ≠ z → b ≠ TO → b ≠ i1 → b ≠ i2 → b ≠ L → s.heap.get? b = some o → s'.heap.get? b = some o) →
        s'.heap.get? L = some { cls := Value.type "list", data := Data.seq acc' c' } → as'.length = min n1 n2 → Kept base P1 P2 s'.heap acc' as' → R (Except.ok (Flow.ret res)) s') →
      codeAny (model prog w) A (Code.builtin "list.extend.loop" { pos := [Value.ref L, Value.ref z, res] }) R s := by
  have ne : ∀ t : Addr, base ≤ t → t ≠ z ∧ t ≠ TO ∧ t ≠ i1 ∧ t ≠ i2 ∧ t ≠ L := fun t ht =>
    ⟨fun q => Nat.not_le.mpr bz (q ▸ ht), fun q => Nat.not_le.mpr bTO (q ▸ ht), fun q => Nat.not_le.mpr b1 (q ▸ ht), fun q => Nat.not_le.mpr b2 (q ▸ ht), fun q => Nat.not_le.mpr bL (q ▸ ht)⟩
  intro k
  induction k with
  | zero =>
    intro i s acc c as hk hi hbs st hL hlen kp hR
    have e : i = min n1 n2 := by omega
    refine codeAny_builtin F.entry_extend_loop ?_
    rw [Around.under_plainId F.plain_extend_loop]
    refine wpAny_bind (zst_end S D1 D2 st (by omega) (by omega) (by omega) fun h' tk hk' => ?_)
    refine wpAny_pure (hR _ acc c as rfl rfl rfl (fun b o c1 c2 c3 c4 c5 e => hk' b o c1 c2 c3 c4 e) (hk' L _ lz lTO (fun q => l1 (q ▸ S.mem1)) (fun q => l2 (q ▸ S.mem2)) hL) (by omega) (kp.keep fun t o ht e => hk' t o (ne t ht).1 (ne t ht).2.1 (ne t ht).2.2.1 (ne t ht).2.2.2.1 e))
  | succ k ih =>
    intro i s acc c as hk hi hbs st hL hlen kp hR
    refine codeAny_builtin F.entry_extend_loop ?_
    rw [Around.under_plainId F.plain_extend_loop]
    refine wpAny_bind (zst_item S D1 D2 st (by omega) (by omega) fun T x1 x2 h' tk p1 p2 st' hT hbig hk' => ?_)
    have li1 : L ≠ i1 := fun q => l1 (q ▸ S.mem1)
    have li2 : L ≠ i2 := fun q => l2 (q ▸ S.mem2)
    have hL' := hk' L _ lz lTO li1 li2 hL
    have hsz : acc.size = i := by
      have := congrArg List.length kp.eq
      simpa [hlen] using this
    have hupd : ∀ b o, b ≠ L → h'.get? b = some o → (h'.update L (Obj.mapSeq fun x => x.push (Value.ref T))).get? b = some o := fun b o hb e => by
      rw [Heap.get?_update_other h' _ (Ne.symm hb)]; exact e
    refine wpAny_bind (wpAny_updateSeq hL' rfl ?_ (by rw [hsz]; omega) (by rw [Array.size_push, hsz]; omega))
    refine wpAny_pure ⟨plainId_quiet F.plain_extend_loop _, ?_⟩
    have hLu := Heap.get?_update_self (Obj.mapSeq fun x => x.push (Value.ref T)) hL' rfl
    refine ih (i + 1) _ (acc.push (Value.ref T)) _ (as ++ [T]) (by omega) (by omega) ?_ (st'.off D1 D2 lz lTI lTO l1 l2 hupd ⟨_, hLu⟩) hLu (by simp [hlen]) ?_ fun s' acc' c' as' g1 g2 g3 hk'' hL'' hlen'' kp'' => hR s' acc' c' as' g1 g2 g3 (fun b o c1 c2 c3 c4 c5 e => hk'' b o c1 c2 c3 c4 c5 (hupd b o c5 (hk' b o c1 c2 c3 c4 e))) hL'' hlen'' kp''
    · show base ≤ (h'.update L _).objs.size
      have hTl : (T : Nat) < h'.objs.size := Heap.lt_size hT
      have e : (h'.update L (Obj.mapSeq fun x => x.push (Value.ref T))).objs.size = h'.objs.size := Heap.size_update ..
      rw [e]; exact Nat.le_trans (Nat.le_trans hbs hbig) (Nat.le_of_lt hTl)
    · have TL : T ≠ L := (ne T (Nat.le_trans hbs hbig)).2.2.2.2
      refine ⟨by simp [kp.eq], ?_, ?_, ?_⟩
      · rw [List.pairwise_append]
        refine ⟨kp.up, by simp, fun a ha b hb => ?_⟩
        have : b = T := by simpa using hb
        subst this
        obtain ⟨j, hj, e⟩ := List.getElem_of_mem ha
        obtain ⟨y1, y2, _, _, hy⟩ := kp.at' j a (by rw [List.getElem?_eq_getElem hj, e])
        exact Nat.lt_of_lt_of_le (Heap.lt_size hy) hbig
      · intro t ht
        rcases List.mem_append.mp ht with q | q
        · exact kp.big t q
        · have : t = T := by simpa using q
          subst this; omega
      · intro j t e
        by_cases hj : j < as.length
        · rw [List.getElem?_append_left hj] at e
          obtain ⟨y1, y2, q1, q2, hy⟩ := kp.at' j t e
          have ht := kp.big t (List.mem_of_getElem? e)
          exact ⟨y1, y2, q1, q2, hupd t _ (ne t ht).2.2.2.2 (hk' t _ (ne t ht).1 (ne t ht).2.1 (ne t ht).2.2.1 (ne t ht).2.2.2.1 hy)⟩
        · have hj' : j = as.length := by
            have := (List.getElem?_eq_some_iff.mp e).1
            simp at this; omega
          subst hj'
          rw [List.getElem?_append_right (Nat.le_refl _)] at e
          simp at e
          subst e
          exact ⟨x1, x2, by rw [hlen]; exact p1, by rw [hlen]; exact p2, hupd T _ TL hT⟩
theorem zst_type {i : Nat} {h : Heap} (st : ZSt z TI TO i1 i2 St1 St2 i h) : ∃ o, h.get? z = some o ∧ o.cls = Value.type "zip" := by
  obtain ⟨hf, _⟩ := st
  rcases hf with ⟨_, hz⟩ | ⟨T0, b, o0, _, _, _, hz, _⟩
  · exact ⟨_, hz, rfl⟩
  · exact ⟨_, hz, rfl⟩
theorem zip_extend {A : Around} {R : Result → Shared → Prop} {s : Shared} {x1 x2 : Value} (S : ZipSep2 z TI TO i1 i2 fp1 fp2) (D1 : Draws prog w A.in1.in1 i1 fp1 n1 P1 St1) (D2 : Draws prog w A.in1.in1 i2 fp2 n2 P2 St2) (hn : min n1 n2 ≤ sizeLine) (lz : L ≠ z) (lTI : L ≠ TI) (lTO : L ≠ TO) (l1 : L ∉ fp1) (l2 : L ∉ fp2)
    (bz : z < s.heap.objs.size) (bTO : TO < s.heap.objs.size) (b1 : i1 < s.heap.objs.size) (b2 : i2 < s.heap.objs.size) (res : Value) (c₀ : Nat) (hz : IsZip s.heap z TI TO Value.none) (hTO : IsTupOf2 s.heap TO x1 x2) (hTI : IsTupOf2 s.heap TI (Value.ref i1) (Value.ref i2)) (st1 : St1 0 s.heap) (st2 : St2 0 s.heap)
    (hL : s.heap.get? L = some { cls := Value.type "list", data := Data.seq #[] c₀ })
    (hR : ∀ (s' : Shared) (acc' : Array Value) (c' : Nat) (as' : List Addr), s'.gens = s.gens → s'.drawn = s.drawn → s'.os = s.os → (∀ b o, b ≠ z → b ≠ TO → b ≠ i1 → b ≠ i2 → b ≠ L → s.heap.get? b = some o → s'.heap.get? b = some o) →
        s'.heap.get? L = some { cls := Value.type "list", data := Data.seq acc' c' } → as'.length = min n1 n2 → Kept s.heap.objs.size P1 P2 s'.heap acc' as' → R (Except.ok (Flow.ret res)) s') :
    wpAny (model prog w) A.in1 (Builtin.List.listExtendWith (Value.ref L) (Value.ref z) res)
      (fun fin s' => match fin with | Fin.done f => R (Except.ok f) s' | Fin.again c' => c'.quiet = true ∧ codeAny (model prog w) A c' R s') (fun e s' => R (Except.error e) s') s := by
  have hT : s.TypeIs (Value.ref z) "zip" := ⟨_, hz, rfl⟩
  unfold Builtin.List.listExtendWith
  refine wpAny_bind (wpAny_typeOf hT ?_)
  rw [if_neg (show ¬ ((Builtin.List.listSameRef (Value.ref L) (Value.ref z) || Value.type "zip" == Value.type "list" || Value.type "zip" == Value.type "tuple") = true) by
    have h1 : Builtin.List.listSameRef (Value.ref L) (Value.ref z) = false := by
      show (L == z) = false
      simpa using lz
    rw [h1]; decide)]
  refine wpAny_bind ((WalksT.zipD2 (A := A.in1) S D1 D2).self 0 s _ _ ⟨hz, hTI, ⟨x1, x2, hTO⟩, st1, st2⟩ ?_)
  refine wpAny_bind (wpAny_holding ?_)
  unfold Builtin.List.listLengthHint
  refine wpAny_bind (wpAny_specialOf hT zip_nolen ?_)
  refine wpAny_bind (wpAny_specialOf hT zip_nohint ?_)
  refine wpAny_pure ?_
  refine wpAny_bind (wpAny_rule ?_)
  refine wpAny_bind (wpAny_bind (wpAny_updateSeq hL rfl ?_ (by simp [sizeLine_eq]) (by simp [sizeLine_eq])))
  have hL2 := Heap.get?_update_self (Obj.mapSeq fun x => x.push Value.none) hL rfl
  refine wpAny_updateSeq hL2 rfl ?_ (by simp [sizeLine_eq]) (by simp [sizeLine_eq])
  have hL3 := Heap.get?_update_self (Obj.mapSeq fun x => x.pop) hL2 rfl
  have oth : ∀ b o, b ≠ L → s.heap.get? b = some o → ((s.heap.update L (Obj.mapSeq fun x => x.push Value.none)).update L (Obj.mapSeq fun x => x.pop)).get? b = some o := fun b o hb e => by
    rw [Heap.get?_update_other _ _ (Ne.symm hb), Heap.get?_update_other _ _ (Ne.symm hb)]; exact e
  have sz : ((s.heap.update L (Obj.mapSeq fun x => x.push Value.none)).update L (Obj.mapSeq fun x => x.pop)).objs.size = s.heap.objs.size := by
    rw [Heap.size_update, Heap.size_update]
  have st : ZSt z TI TO i1 i2 St1 St2 0 s.heap := ⟨.inl ⟨⟨x1, x2, hTO⟩, hz⟩, hTI, st1, st2⟩
  refine wpAny_pure ⟨plainId_quiet F.plain_extend_loop _, ?_⟩
  refine zip_loop S D1 D2 hn lz lTI lTO l1 l2 s.heap.objs.size bz bTO b1 b2 (Heap.lt_size hL) res (min n1 n2) 0 _ #[] _ [] (by omega) (Nat.zero_le _) (Nat.le_of_eq sz.symm) (st.off D1 D2 lz lTI lTO l1 l2 oth ⟨_, hL3⟩) hL3 rfl ⟨rfl, .nil, (fun _ h => nomatch h), (fun j t e => by simp at e)⟩ fun s' acc' c' as' g1 g2 g3 hk hL' hlen kp => hR s' acc' c' as' g1 g2 g3 (fun b o c1 c2 c3 c4 c5 e => hk b o c1 c2 c3 c4 c5 (oth b o c5 e)) hL' hlen kp
theorem zip_list_init {A : Around} {R : Result → Shared → Prop} {s : Shared} {x1 x2 : Value} (S : ZipSep2 z TI TO i1 i2 fp1 fp2) (D1 : Draws prog w A.in1.in1 i1 fp1 n1 P1 St1) (D2 : Draws prog w A.in1.in1 i2 fp2 n2 P2 St2) (hn : min n1 n2 ≤ sizeLine) (lz : L ≠ z) (lTI : L ≠ TI) (lTO : L ≠ TO) (l1 : L ∉ fp1) (l2 : L ∉ fp2)
    (bz : z < s.heap.objs.size) (bTO : TO < s.heap.objs.size) (b1 : i1 < s.heap.objs.size) (b2 : i2 < s.heap.objs.size) (hz : IsZip s.heap z TI TO Value.none) (hTO : IsTupOf2 s.heap TO x1 x2) (hTI : IsTupOf2 s.heap TI (Value.ref i1) (Value.ref i2)) (st1 : St1 0 s.heap) (st2 : St2 0 s.heap)
    (hL : s.heap.get? L = some { cls := Value.type "list", data := Data.seq #[] })
    (hR : ∀ (s' : Shared) (acc' : Array Value) (c' : Nat) (as' : List Addr), s'.gens = s.gens → s'.drawn = s.drawn → s'.os = s.os → (∀ b o, b ≠ z → b ≠ TO → b ≠ i1 → b ≠ i2 → b ≠ L → s.heap.get? b = some o → s'.heap.get? b = some o) →
        s'.heap.get? L = some { cls := Value.type "list", data := Data.seq acc' c' } → as'.length = min n1 n2 → Kept s.heap.objs.size P1 P2 s'.heap acc' as' → R (Except.ok (Flow.ret Value.none)) s') :
    wpAny (model prog w) A.in1 (Builtin.«list.__init__» { pos := [Value.ref L, Value.ref z] })
      (fun fin s' => match fin with | Fin.done f => R (Except.ok f) s' | Fin.again c' => c'.quiet = true ∧ codeAny (model prog w) A c' R s') (fun e s' => R (Except.error e) s') s := by
  have oth : ∀ b o, b ≠ L → s.heap.get? b = some o → (s.heap.update L (Obj.mapSeq fun x => #[])).get? b = some o := fun b o hb e => by
    rw [Heap.get?_update_other _ _ (Ne.symm hb)]; exact e
  have sz : (s.heap.update L (Obj.mapSeq fun x => #[])).objs.size = s.heap.objs.size := by rw [Heap.size_update]
  have hL2 := Heap.get?_update_self (Obj.mapSeq fun x => #[]) hL rfl
  have nz : z ≠ L := Ne.symm lz
  unfold Builtin.«list.__init__»
  refine wpAny_bind (wpAny_bind (wpAny_seqItems hL rfl (wpAny_pure ?_)))
  refine wpAny_bind (wpAny_updateSeq hL rfl ?_ (by simp [sizeLine_eq]) (by simp [sizeLine_eq]))
  refine wpAny_bind (wpAny_letGo ?_)
  refine zip_extend (s := ⟨s.heap.update L (Obj.mapSeq fun x => #[]), s.gens, s.drawn, s.toks, s.os⟩) S D1 D2 hn lz lTI lTO l1 l2 (by rw [sz]; exact bz) (by rw [sz]; exact bTO) (by rw [sz]; exact b1) (by rw [sz]; exact b2) Value.none _ (oth _ _ nz hz) (oth _ _ (Ne.symm lTO) hTO) (oth _ _ (Ne.symm lTI) hTI)
    (D1.frame _ _ _ st1 fun b hb o e => oth b o (fun q => l1 (q ▸ hb)) e) (D2.frame _ _ _ st2 fun b hb o e => oth b o (fun q => l2 (q ▸ hb)) e) hL2 fun s' acc' c' as' g1 g2 g3 hk hL' hlen kp => ?_
  refine hR s' acc' c' as' g1 g2 g3 (fun b o c1 c2 c3 c4 c5 e => hk b o c1 c2 c3 c4 c5 (oth b o c5 e)) hL' hlen ?_
  have e : (⟨s.heap.update L (Obj.mapSeq fun x => #[]), s.gens, s.drawn, s.toks, s.os⟩ : Shared).heap.objs.size = s.heap.objs.size := sz
  rw [e] at kp
  exact kp
theorem call_list_zip {A : Around} {E : Value → Shared → Prop} {s : Shared} {Q : Value → Shared → Prop} {x1 x2 : Value} (S : ZipSep2 z TI TO i1 i2 fp1 fp2) (D1 : Draws prog w A.in1.in1.in1 i1 fp1 n1 P1 St1) (D2 : Draws prog w A.in1.in1.in1 i2 fp2 n2 P2 St2) (hn : min n1 n2 ≤ sizeLine)
    (hf1 : ∀ b ∈ fp1, b < s.heap.objs.size) (hf2 : ∀ b ∈ fp2, b < s.heap.objs.size) (hz : IsZip s.heap z TI TO Value.none) (hTO : IsTupOf2 s.heap TO x1 x2) (hTI : IsTupOf2 s.heap TI (Value.ref i1) (Value.ref i2)) (st1 : St1 0 s.heap) (st2 : St2 0 s.heap)
    (hQ : ∀ (s' : Shared) (acc' : Array Value) (c' : Nat) (as' : List Addr), s'.gens = s.gens → s'.drawn = s.drawn → s'.os = s.os → (∀ b o, b ≠ z → b ≠ TO → b ≠ i1 → b ≠ i2 → s.heap.get? b = some o → s'.heap.get? b = some o) →
        s'.heap.get? s.heap.objs.size = some { cls := Value.type "list", data := Data.seq acc' c' } → as'.length = min n1 n2 → Kept (s.heap.objs.size + 1) P1 P2 s'.heap acc' as' → Q (Value.ref s.heap.objs.size) s') :
    wpAny (model prog w) A (call (Value.type "list") [Value.ref z]) Q E s := by
  refine callType_codes F.called_list (F.typeCall_list_1 (Value.ref z)) F.entry_list_init (code_list_new (Q₁ := fun obj s1 => obj = Value.ref s.heap.objs.size ∧ s1 = { heap := s.heap.push { cls := Value.type "list", data := Data.seq #[] }, gens := s.gens, drawn := s.drawn, toks := s.toks, os := s.os }) (Value.ref z) ⟨rfl, rfl⟩) fun obj s₁ h₁ => ?_
  obtain ⟨rfl, rfl⟩ := h₁
  have hS := Heap.get?_push_size s.heap (o := { cls := Value.type "list", data := Data.seq #[] }) rfl
  have up : ∀ b o, s.heap.get? b = some o → (s.heap.push { cls := Value.type "list", data := Data.seq #[] }).get? b = some o := fun b o e => Heap.get?_push_of_some _ e
  have sz : (s.heap.push { cls := Value.type "list", data := Data.seq #[] }).objs.size = s.heap.objs.size + 1 := Heap.size_push ..
  have lt : ∀ {b o}, s.heap.get? b = some o → b < (s.heap.push { cls := Value.type "list", data := Data.seq #[] }).objs.size := fun e => by rw [sz]; exact Nat.lt_succ_of_lt (Heap.lt_size e)
  have neL : ∀ {b o}, s.heap.get? b = some o → s.heap.objs.size ≠ b := fun e => Nat.ne_of_gt (Heap.lt_size e)
  obtain ⟨oi1, hi1⟩ := D1.live 0 _ st1
  obtain ⟨oi2, hi2⟩ := D2.live 0 _ st2
  refine ⟨⟨_, hS, rfl⟩, F.args_list_init_2 (Value.ref s.heap.objs.size) (Value.ref z), ?_⟩
  refine zip_list_init (A := A.in1) (L := s.heap.objs.size) S D1 D2 hn (neL hz) (neL hTI) (neL hTO) (fun h => Nat.lt_irrefl _ (hf1 _ h)) (fun h => Nat.lt_irrefl _ (hf2 _ h)) (lt hz) (lt hTO) (lt hi1) (lt hi2) (up _ _ hz) (up _ _ hTO) (up _ _ hTI) (D1.frame _ _ _ st1 fun b hb o e => up b o e) (D2.frame _ _ _ st2 fun b hb o e => up b o e) hS fun s' acc' c' as' g1 g2 g3 hk hL hlen kp => ?_
  refine ⟨rfl, hQ s' acc' c' as' g1 g2 g3 (fun b o c1 c2 c3 c4 e => hk b o c1 c2 c3 c4 (Ne.symm (neL e)) (up b o e)) hL hlen ?_⟩
  have e : (⟨s.heap.push { cls := Value.type "list", data := Data.seq #[] }, s.gens, s.drawn, s.toks, s.os⟩ : Shared).heap.objs.size = s.heap.objs.size + 1 := sz
  rw [e] at kp
  exact kp
end
end Z

set_option Elab.async false
set_option linter.all false
set_option maxRecDepth 100000
set_option maxHeartbeats 1000000
namespace Z
variable [Tabs]
open PySem L2 PySem.Spec PyProof.Rows
theorem boot_zip' : bootBuiltins "zip" = some (.type "zip") := by decide +kernel
section
variable {X : Cx} {w : Wd} {pos : Pos} {a b : Expr}
/-- what is to be shown of list(zip(v1, v2)) -/
def rLZip (K : PySem.W.Frag) (vs : List V) (H : Hp) (Q : VK) : Prop := ∃ (a1 a2 : Addr) (xs ys : List V), vs = [.ref a1, .ref a2] ∧ (SqL K H a1 xs ∨ SqT K H a1 xs) ∧ (SqL K H a2 ys ∨ SqT K H a2 ys) ∧
  ∀ (H' : Hp) (p : Addr) (ts : List Addr), (∀ b o, H b = some o → H' b = some o) → H p = none → (∀ t ∈ ts, H t = none) → H' p = some (.lst (ts.map V.ref)) → ts.length = min xs.length ys.length →
    (∀ (j : Nat) (t : Addr), ts[j]? = some t → ∃ x y, xs[j]? = some x ∧ ys[j]? = some y ∧ H' t = some (.tup [x, y])) → Q (.ref p) H'
def eLZip (f : AF) : EF := fun ρ S => (f ρ S).bind fun ds S1 => match ds with
  | [x, y] => (match asQ S1 x, asQ S1 y with
    | some xs, some ys => newL S1 ((xs.zip ys).map fun p => .tup [p.1, p.2])
    | _, _ => .bad)
  | _ => .bad
theorem lzip_use {f : AF} {σ : L2.St} {H : Hp} {Q : VK} (h : tE w (eLZip f) σ H Q) : tA w f σ H fun vs H1 => rLZip w.K vs H1 Q := by
  obtain ⟨ι, ρ, S, L, Sl, q⟩ := h
  refine ⟨ι, ρ, S, L, Sl, PostA.thenE q fun ds S1 q1 vs ι1 H1 x1 L1 r1 => ?_⟩
  replace q1 := q1.ext x1
  split at q1
  · rename_i x y
    obtain ⟨v, u, rfl, rv, ru⟩ := rel2 r1
    cases e1 : asQ S1 x with
    | none => simp only [e1] at q1; exact q1.elim
    | some xs =>
      cases e2 : asQ S1 y with
      | none => simp only [e1, e2] at q1; exact q1.elim
      | some ys =>
        simp only [e1, e2] at q1
        obtain ⟨a1, us, rfl, h1, l1⟩ := L1.seq e1 rv
        obtain ⟨a2, ws, rfl, h2, l2⟩ := L1.seq e2 ru
        refine ⟨a1, a2, us, ws, rfl, h1, h2, fun H' p ts hk hp ht hH hlen hat => ?_⟩
        have xe : Ext ι1 H1 (ι1 ++ [p]) H' := ⟨⟨[p], rfl, fun t ht => by rw [List.mem_singleton.mp ht]; exact hp⟩, fun c o e _ => hk c o e, fun c o e => ⟨o, hk c o e⟩⟩
        have lk : Link w.K (ι1 ++ [p]) (S1 ++ [.lst ((xs.zip ys).map fun p => D.tup [p.1, p.2])]) H' := by
          refine ⟨by simp [L1.len], ?_, fun c hc => (L1.tab c hc).imp fun ps q => ⟨hk c _ q.1, q.2⟩, fun n c o e1 e2 => ?_⟩
          · rw [List.nodup_append]
            refine ⟨L1.nd, by simp, fun c hc d hd => ?_⟩
            have : d = p := by simpa using hd
            subst this
            intro z; subst z
            exact L1.not_mem hp hc
          · by_cases z : n < ι1.length
            · rw [List.getElem?_append_left z] at e1
              rw [List.getElem?_append_left (by rw [← L1.len]; exact z)] at e2
              obtain ⟨u, hu⟩ := L1.there e1
              exact (L1.obj n c o e1 e2).ext xe (by rw [hk c u hu, hu])
            · have hn : n = ι1.length := by
                have := (List.getElem?_eq_some_iff.mp e1).1
                simp at this; omega
              subst hn
              rw [List.getElem?_append_right (Nat.le_refl _)] at e1
              rw [L1.len, List.getElem?_append_right (Nat.le_refl _)] at e2
              simp at e1 e2
              subst e1; subst e2
              refine ⟨ts.map V.ref, hH, ?_⟩
              have key : ∀ (zs : List (D × D)) (ts : List Addr), ts.length = zs.length → (∀ (j : Nat) (t : Addr), ts[j]? = some t → ∃ x y : D × V, Rel (ι1 ++ [p]) H' x.1 x.2 ∧ Rel (ι1 ++ [p]) H' y.1 y.2 ∧ zs[j]? = some (x.1, y.1) ∧ H' t = some (.tup [x.2, y.2])) → RelL (ι1 ++ [p]) H' (zs.map fun p => D.tup [p.1, p.2]) (ts.map V.ref) := by
                intro zs
                induction zs with
                | nil =>
                  intro ts hl _
                  have : ts = [] := List.eq_nil_of_length_eq_zero hl
                  subst this; exact relL_nil.mpr rfl
                | cons z zs ih =>
                  intro ts hl ha
                  cases ts with
                  | nil => simp at hl
                  | cons t ts =>
                    obtain ⟨x, y, rx, ry, ez, hT⟩ := ha 0 t rfl
                    simp at ez; subst ez
                    refine relL_cons.mpr ⟨_, _, rfl, rel_tup.mpr ⟨t, _, rfl, hT, relL_cons.mpr ⟨_, _, rfl, rx, relL_cons.mpr ⟨_, _, rfl, ry, relL_nil.mpr rfl⟩⟩⟩, ih ts (by simpa using hl) fun j t' e => ?_⟩
                    obtain ⟨x', y', a1, a2, a3, a4⟩ := ha (j + 1) t' (by simpa using e)
                    exact ⟨x', y', a1, a2, by simpa using a3, a4⟩
              refine key (xs.zip ys) ts (by rw [hlen, List.length_zip, l1.length, l2.length]) fun j t e => ?_
              obtain ⟨vx, vy, g1, g2, g3⟩ := hat j t e
              obtain ⟨dx, e3, e4⟩ := l1.getV g1
              obtain ⟨dy, e5, e6⟩ := l2.getV g2
              exact ⟨(dx, vx), (dy, vy), e4.ext xe, e6.ext xe, by rw [List.getElem?_zip_eq_some]; exact ⟨e3, e5⟩, g3⟩
        refine q1 (.ref p) _ H' xe lk (rel_ob.mpr ⟨p, ?_, rfl⟩)
        rw [← L1.len, List.getElem?_append_right (Nat.le_refl _)]; simp
  · exact q1.elim
/-- many new things at once -/
theorem laid_many {pins : List (Addr × Obj)} {σ : L2.St} {H H' : Hp} {s s' : Shared} (I : L2.Inv X pins σ H s) (hos : s'.os = s.os) (hg : s'.gens = s.gens) (hk : ∀ b o, s.heap.get? b = some o → s'.heap.get? b = some o) (hH : ∀ b o, H b = some o → H' b = some o) (hlow : ∀ b, b < s.heap.objs.size → H' b = H b)
    (hok : ∀ b u, s.heap.objs.size ≤ b → H' b = some u → ObjOk X.prog X.w H' s'.heap b u) : L2.Inv X pins σ H' s' := by
  refine Inv.call' (ch := []) I hos ⟨fun b o q _ _ _ => hk b o q, fun b o q _ _ _ => ⟨o.slots, hk b o q⟩, fun b o q n _ => by rw [hlow b (Heap.lt_size q)]; exact n, fun b o q _ => ⟨o, hk b o q⟩, fun b xs q => hH b _ q, fun b o u q => hH b _ q, fun b ps q => ⟨#[], by rw [hH b _ q]; simp⟩⟩ ?_ (by rw [hg]; exact I.bare) (fun b h => nomatch h)
  intro b u q
  by_cases hb : b < s.heap.objs.size
  · rw [hlow b hb] at q
    exact (I.hok b u q).stay (fun c u _ e => hk c u e) (fun c e => hH c _ e) (fun c xs e => hH c _ e)
  · exact hok b u (Nat.le_of_not_lt hb) q
/-- a list or a tuple, drawn -/
theorem drawn {pins : List (Addr × Obj)} {σ : L2.St} {H : Hp} {s : Shared} {c : Addr} {xs : List V} (I : L2.Inv X pins σ H s) (h : SqL X.K H c xs ∨ SqT X.K H c xs) : ∃ (us : List Value) (o : Obj) (Hb : Heap → Prop), Vals xs us ∧ Begins (Value.ref c) o Hb ∧ Hb s.heap ∧ c < s.heap.objs.size ∧ xs.length ≤ sizeLine ∧
    ∀ (it : Addr) (A : Around), A.handled = none → c ≠ it → ∃ St : Nat → Heap → Prop, Draws X.prog X.w A it [it, c] us.toArray.size (fun i v => us.toArray[i]? = some v) St ∧ ∀ h', h'.get? it = some o → Hb h' → St 0 h' := by
  rcases h with h | h
  · obtain ⟨its, hv, hp, hl⟩ := I.list h
    have hi : s.heap.IsList c its.toArray := by
      obtain ⟨o, n, h1, h2, h3, h4⟩ := hp
      exact ⟨o, h1, h2, n, h4⟩
    obtain ⟨o, ho, _⟩ := id hi
    exact ⟨its, _, _, hv, begins_list c its.toArray, hi, Heap.lt_size ho, hl, fun it A hA hc => ⟨_, Draws.list hA it c hc its.toArray, fun h' h1 h2 => ⟨⟨_, h1, rfl, rfl⟩, h2⟩⟩⟩
  · obtain ⟨its, hv, hp, hl⟩ := I.tuple h
    have hi : s.heap.IsTuple c its.toArray := hp
    obtain ⟨o, ho, _⟩ := id hi
    exact ⟨its, _, _, hv, begins_tuple c its.toArray, hi, Heap.lt_size ho, hl, fun it A hA hc => ⟨_, Draws.tuple hA it c hc its.toArray, fun h' h1 h2 => ⟨⟨_, h1, rfl, rfl⟩, h2⟩⟩⟩
/-- as many tuples, where they stand -/
def putPairs (H : Hp) : List Addr → List (V × V) → Hp
  | t :: ts, q :: qs => upd (putPairs H ts qs) t (.tup [q.1, q.2])
  | _, _ => H
theorem putPairs_off {b : Addr} {H : Hp} : ∀ (ts : List Addr) (qs : List (V × V)), b ∉ ts → putPairs H ts qs b = H b
  | [], _, _ => rfl
  | t :: ts, [], _ => rfl
  | t :: ts, q :: qs, h => by
    unfold putPairs
    rw [upd_ne (fun z => h (by rw [z]; exact List.mem_cons_self)), putPairs_off ts qs fun z => h (List.mem_cons_of_mem _ z)]
theorem putPairs_at {H : Hp} : ∀ (ts : List Addr) (qs : List (V × V)), ts.Nodup → ts.length = qs.length → ∀ (j : Nat) (t : Addr), ts[j]? = some t → ∃ q, qs[j]? = some q ∧ putPairs H ts qs t = some (.tup [q.1, q.2])
  | [], _, _, _, j, t, e => by simp at e
  | t :: ts, [], _, h, j, u, e => by simp at h
  | t :: ts, q :: qs, nd, h, 0, u, e => by
    simp at e; subst e
    exact ⟨q, rfl, by unfold putPairs; rw [upd_same]⟩
  | t :: ts, q :: qs, nd, h, j + 1, u, e => by
    have e' : ts[j]? = some u := by simpa using e
    obtain ⟨q', e1, e2⟩ := putPairs_at (H := H) ts qs (List.nodup_cons.mp nd).2 (by simpa using h) j u e'
    refine ⟨q', by simpa using e1, ?_⟩
    have ne : u ≠ t := fun z => by
      have := List.mem_of_getElem? e'
      rw [z] at this
      exact (List.nodup_cons.mp nd).1 this
    unfold putPairs
    rw [upd_ne ne, e2]
theorem nm2 {x a b : Addr} (h1 : x ≠ a) (h2 : x ≠ b) : x ∉ [a, b] := fun z => by
  rcases List.mem_cons.mp z with z | z
  · exact h1 z
  · exact h2 (List.mem_singleton.mp z)
theorem vals_get {vs : List V} {us : List Value} (h : Vals vs us) {j : Nat} {u : Value} (e : us[j]? = some u) : ∃ v, vs[j]? = some v ∧ RelV v u := by
  induction h generalizing j with
  | nil => simp at e
  | cons r _ ih =>
    cases j with
    | zero => simp at e; subst e; exact ⟨_, rfl, r⟩
    | succ j => exact ih (by simpa using e)
theorem vals_refs' : ∀ (ts : List Addr), Vals (ts.map V.ref) (ts.map Value.ref)
  | [] => .nil
  | t :: ts => .cons rfl (vals_refs' ts)
theorem call_lzip {pins : List (Addr × Obj)} {σ : L2.St} {H : Hp} {s : Shared} {Q : VK} {vs : List V} {us : List Value} (hc : X.calm = true) (I : L2.Inv X pins σ H s) (r : Vals vs us) (h : rLZip X.K vs H Q) :
    wpAny (model X.prog X.w) X.A (call (Value.type "zip") us) (fun z s1 => wpAny (model X.prog X.w) X.A (call (Value.type "list") [z]) (EP X pins σ Q) X.xe s1) X.xe s := by
  obtain ⟨a1, a2, xs, ys, rfl, h1, h2, q⟩ := h
  obtain ⟨u1, t, rfl, e1, rt⟩ : ∃ u1 t, us = u1 :: t ∧ RelV (.ref a1) u1 ∧ Vals [.ref a2] t := by
    rcases r with _ | ⟨r1, r2⟩; exact ⟨_, _, rfl, r1, r2⟩
  obtain ⟨u2, rfl, e2⟩ : ∃ u2, t = [u2] ∧ RelV (.ref a2) u2 := by
    rcases rt with _ | ⟨r1, r2⟩; rcases r2 with _ | _; exact ⟨_, rfl, r1⟩
  have e1' : u1 = .ref a1 := e1
  have e2' : u2 = .ref a2 := e2
  subst e1'; subst e2'
  obtain ⟨w1, o1, B1, v1, bg1, hb1, lt1, sz1, d1⟩ := drawn I h1
  obtain ⟨w2, o2, B2, v2, bg2, hb2, lt2, sz2, d2⟩ := drawn I h2
  refine zip_begins2 bg1 bg2 hb1 hb2 fun h' hz hTI hTO g1 g2 hsz hk => ?_
  have hh : X.A.handled = none := I.ok.hd hc
  obtain ⟨St1, D1, f1⟩ := d1 s.heap.objs.size X.A.in1.in1.in1 hh (Nat.ne_of_lt lt1)
  obtain ⟨St2, D2, f2⟩ := d2 (s.heap.objs.size + 1) X.A.in1.in1.in1 hh (Nat.ne_of_lt (Nat.lt_succ_of_lt lt2))
  have n1 : xs.length = w1.toArray.size := by simpa using Paired.length v1
  have n2 : ys.length = w2.toArray.size := by simpa using Paired.length v2
  have la1 : @LT.lt Nat instLTNat a1 s.heap.objs.size := lt1
  have la2 : @LT.lt Nat instLTNat a2 s.heap.objs.size := lt2
  have sep : ZipSep2 (s.heap.objs.size + 4) (s.heap.objs.size + 2) (s.heap.objs.size + 3) s.heap.objs.size (s.heap.objs.size + 1) [s.heap.objs.size, a1] [s.heap.objs.size + 1, a2] := by
    have nq : ∀ {x y : Addr}, (x : Nat) < y ∨ (y : Nat) < x → x ≠ y := fun h z => by
      subst z
      rcases h with h | h <;> exact Nat.lt_irrefl _ h
    refine ⟨nq (.inl ?_), nq (.inl ?_), nq (.inl ?_), nq (.inr ?_), List.mem_cons_self, nm2 (nq (.inr ?_)) (nq (.inr ?_)), nm2 (nq (.inr ?_)) (nq (.inr ?_)), nq (.inr ?_), List.mem_cons_self, nm2 (nq (.inr ?_)) (nq (.inr ?_)), nm2 (nq (.inr ?_)) (nq (.inr ?_)), nm2 (nq (.inl ?_)) (nq (.inr ?_)), nm2 (nq (.inr ?_)) (nq (.inr ?_))⟩
    all_goals (dsimp only [PySem.Addr]; omega)
  refine call_list_zip sep D1 D2 (by omega) ?_ ?_ hz hTO hTI (f1 h' g1 (bg1.keeps _ _ hb1 hk)) (f2 h' g2 (bg2.keeps _ _ hb2 hk)) fun s' acc c as gg gd go hkeep hL hlen kp => ?_
  · intro b hb
    have hh : @LT.lt Nat instLTNat b (s.heap.objs.size + 5) := by
      rcases List.mem_cons.mp hb with z | z
      · have z' : @Eq Nat b s.heap.objs.size := z
        omega
      · have z' : @Eq Nat b a1 := List.mem_singleton.mp z
        omega
    rw [hsz]; exact hh
  · intro b hb
    have hh : @LT.lt Nat instLTNat b (s.heap.objs.size + 5) := by
      rcases List.mem_cons.mp hb with z | z
      · have z' : @Eq Nat b (s.heap.objs.size + 1) := z
        omega
      · have z' : @Eq Nat b a2 := List.mem_singleton.mp z
        omega
    rw [hsz]; exact hh
  · have hkall : ∀ b o, s.heap.get? b = some o → s'.heap.get? b = some o := fun b o e => by
      have lb : @LT.lt Nat instLTNat b s.heap.objs.size := Heap.lt_size e
      refine hkeep b o ?_ ?_ ?_ ?_ (hk b o e)
      all_goals (intro z; have z' : @Eq Nat b _ := z; omega)
    have hbig : ∀ t ∈ as, @LT.lt Nat instLTNat (s.heap.objs.size + 5) t := fun t ht => by
      have z : @LE.le Nat instLENat (h'.objs.size + 1) t := kp.big t ht
      omega
    have nd : as.Nodup := kp.up.imp fun h => Nat.ne_of_lt h
    have fresh : ∀ b : Addr, @LE.le Nat instLENat s.heap.objs.size b → H b = none := fun b hb => HOk.fresh I.hok hb
    have pL : @LE.le Nat instLENat s.heap.objs.size h'.objs.size := by omega
    have nL : (h'.objs.size : Addr) ∉ as := fun z => by
      have z' : h'.objs.size + 1 ≤ h'.objs.size := kp.big _ z
      omega
    have hlz : as.length = (xs.zip ys).length := by rw [hlen, List.length_zip, n1, n2]
    let H' : Hp := putPairs (upd H h'.objs.size (.lst (as.map V.ref))) as (xs.zip ys)
    have off : ∀ b, b ∉ as → b ≠ h'.objs.size → H' b = H b := fun b m1 m2 => by
      show putPairs _ as (xs.zip ys) b = H b
      rw [putPairs_off as _ m1, upd_ne m2]
    have atL : H' h'.objs.size = some (.lst (as.map V.ref)) := by
      show putPairs _ as (xs.zip ys) _ = _
      rw [putPairs_off as _ nL, upd_same]
    have low : ∀ b : Addr, @LT.lt Nat instLTNat b s.heap.objs.size → H' b = H b := fun b hb => by
      refine off b (fun m => ?_) (fun z => ?_)
      · have := hbig b m; omega
      · have z' : @Eq Nat b h'.objs.size := z; omega
    have kp' : ∀ b o, H b = some o → H' b = some o := fun b o e => by
      rw [low b ?_]; exact e
      by_cases z : @LE.le Nat instLENat s.heap.objs.size b
      · rw [fresh b z] at e; cases e
      · exact Nat.lt_of_not_le z
    refine ⟨.ref h'.objs.size, H', laid_many I go gg hkall kp' low ?_, rfl, q H' _ as kp' (fresh _ pL) (fun t ht => fresh t (by have := hbig t ht; omega)) atL (by rw [hlz, List.length_zip]) fun j t e => ?_⟩
    · intro b u hb e
      by_cases m : b ∈ as
      · obtain ⟨j, hj, ej⟩ := List.getElem_of_mem m
        have ej' : as[j]? = some b := by rw [List.getElem?_eq_getElem hj, ej]
        obtain ⟨p, ep, hp⟩ := putPairs_at (H := upd H h'.objs.size (.lst (as.map V.ref))) as (xs.zip ys) nd hlz j b ej'
        have : some u = some (HO.tup [p.1, p.2]) := by rw [← e]; exact hp
        cases this
        obtain ⟨x1, x2, p1, p2, hT⟩ := kp.at' j b ej'
        rw [List.getElem?_zip_eq_some] at ep
        have p1' : w1[j]? = some x1 := by simpa using p1
        have p2' : w2[j]? = some x2 := by simpa using p2
        obtain ⟨y1, z1, r1⟩ := vals_get v1 p1'
        obtain ⟨y2, z2, r2⟩ := vals_get v2 p2'
        rw [z1] at ep; rw [z2] at ep
        obtain ⟨ep1, ep2⟩ := ep
        cases ep1; cases ep2
        exact ⟨by show 2 ≤ sizeLine; rw [sizeLine_eq]; decide, [x1, x2], .cons r1 (.cons r2 .nil), ⟨_, hT, rfl, 0, rfl⟩⟩
      · by_cases mL : b = h'.objs.size
        · subst mL
          rw [atL] at e; cases e
          refine ⟨by rw [List.length_map, hlen]; omega, as.map Value.ref, c, vals_refs' as, ?_⟩
          rw [← kp.eq]
          simpa using hL
        · rw [off b m mL, fresh b hb] at e; cases e
    · obtain ⟨p, ep, hp⟩ := putPairs_at (H := upd H h'.objs.size (.lst (as.map V.ref))) as (xs.zip ys) nd hlz j t e
      rw [List.getElem?_zip_eq_some] at ep
      exact ⟨p.1, p.2, ep.1, ep.2, hp⟩
theorem se_lzip {f : AF} {p p2 cpos : Pos} (hc : X.calm = true) (hm : X.mg "list" = none) (hm2 : X.mg "zip" = none) (ha : PA X [a, b] (tA w f)) (gl : Gl X "list" := by rfl) (gl2 : Gl X "zip" := by rfl) (hK : X.K = w.K := by rfl)
    (h1 : starEach [.Call (.Name "zip" p2) [a, b] [] cpos] X.env = (false, eval (.Call (.Name "zip" p2) [a, b] [] cpos) X.env) :: starEach [] X.env := by rfl)
    (h2 : starEach [a, b] X.env = (false, eval a X.env) :: starEach [b] X.env := by rfl) (h3 : (backTo cpos (starEach [b] X.env)).any (·.1) = false := by rfl) :
    PE X (.Call (.Name "list" p) [.Call (.Name "zip" p2) [a, b] [] cpos] [] pos) (tE w (eLZip f)) where
  run := fun pins s σ H Q I h =>
    wpAny_Call_Name_kw (ld_blt I gl hm boot_list' (callWith_type1 (by
      rw [h1]
      show wpAny _ _ (spliced ((false, _) :: _)) _ _ _
      refine Calls.spliced_cons (wpAny_Call_Name_kw (ld_blt I gl2 hm2 boot_zip' (callWith_type1 (thn (ha.run cpos pins s σ H _ I (lzip_use h)) fun us s1 x => ?_) h2 h3)))
      obtain ⟨vs, H1, I1, r1, q1⟩ := x
      rw [← hK] at q1
      exact thn (call_lzip hc I1 r1 q1) fun z s2 hz => Calls.spliced_nil hz) h1 rfl))
end
end Z

set_option Elab.async false
set_option linter.all false
set_option maxRecDepth 100000
set_option maxHeartbeats 1000000
namespace Z
variable [Tabs]
open PySem L2 PySem.Spec PyProof.Rows
section
variable {X : Cx} {w : Wd} {pos : Pos} {a b : Expr} {fa fb : EF}
theorem Link.tyB {K : PySem.W.Frag} {ι : List Addr} {S : Store} {H : Hp} (L : Link K ι S H) {d : D} {T : String} {v : V} (e : tyD S d = some T) (r : Rel ι H d v) : TyB K H v T := by
  cases d <;> simp only [tyD] at e
  · cases e; rw [rel_non.mp r]; exact .non
  · cases e; rw [rel_bl.mp r]; exact .bl _
  · cases e; rw [rel_int.mp r]; exact .int _
  · cases e; rw [rel_str.mp r]; exact .str _
  · cases e; obtain ⟨q, vs, rfl, h, l⟩ := rel_tup.mp r; exact .tup (SqT.of h)
  · rename_i n
    cases q : S[n]? with
    | none => rw [q] at e; cases e
    | some o =>
      rw [q] at e
      cases o <;> cases e
      · obtain ⟨p, vs, rfl, _, h, _⟩ := L.lst q r; exact .lst (SqL.of h)
      · obtain ⟨p, o, vs, rfl, _, h, _⟩ := L.frz q r; exact .lst (.inl (.inr ⟨o, h⟩))
      · obtain ⟨p, vs, rfl, _, h, _⟩ := L.dct q r; exact .dK h
def eTyIs (neg : Bool) (T : String) (f : EF) : EF := fun ρ S => (f ρ S).bind fun d S1 => match tyD S1 d with
  | some t => .ok (.bl (if neg = true then !decide (t = T) else decide (t = T))) S1
  | none => .bad
theorem tyIs_use {T : String} {f : EF} {neg : Bool} {r : R2} (hr : ∀ (m n : String) (H : Hp) (Q : VK), Q (.bl (if neg = true then !decide (m = n) else decide (m = n))) H → r (.ty m) (.ty n) H Q) {σ : L2.St} {H : Hp} {Q : VK} (h : tE w (eTyIs neg T f) σ H Q) :
    tOp r (tCB (rTyp w.K) (tA w (aCons f aNil))) (tC (.ty T)) σ H Q := by
  obtain ⟨ι, ρ, S, L, Sl, p⟩ := h
  refine ⟨ι, ρ, S, L, Sl, ?_⟩
  unfold eTyIs at p
  unfold aCons aNil
  cases e : f ρ S with
  | bad => rw [e] at p; exact p.elim
  | exc c fs S1 => rw [e] at p; exact p
  | ok d S1 =>
    rw [e] at p
    intro vs ι1 H1 x1 L1 r1
    simp only [R.bind_ok] at p
    obtain ⟨v, rfl, rv⟩ := rel1 r1
    cases e2 : tyD S1 d with
    | none => simp only [e2] at p; exact p.elim
    | some t =>
      simp only [e2] at p
      exact ⟨v, t, rfl, L1.tyB e2 rv, hr t T H1 Q (p _ ι1 H1 x1 L1 (rel_bl.mpr rfl))⟩
theorem se_tyIs {T : String} {x : Str} {p p2 cpos : Pos} (hm : X.mg "type" = none) (hmT : X.mg x = none) (hv : bootBuiltins x = some (.type T)) (ha : PE X a (tE w fa)) (gl : Gl X "type" := by rfl) (glT : Gl X x := by rfl) (hK : X.K = w.K := by rfl)
    (h1 : x ≠ "__name__" := by decide) (h2 : (x == ("__debug__" : Str)) = false := by decide)
    (h3 : starEach [a] X.env = (false, eval a X.env) :: starEach [] X.env := by rfl) (h4 : (backTo cpos (starEach [] X.env)).any (·.1) = false := by rfl) (hmk : behindInMarks .Is (.Name x p2) = false := by rfl) :
    PE X (.Compare (.Call (.Name "type" p) [a] [] cpos) [.Is] [.Name x p2] pos) (tE w (eTyIs false T fa)) := by
  have q := pe_cmpR (pos := pos) (op_isTyB (X := X)) (pe_callTy (p := p) call_type1 gl hm boot_type' (sa_cons ha sa_nil h3) (by decide) (by decide) h3 h4) (pe_bltn (v := .ty T) (pos := p2) glT hmT hv rfl h1 h2) hmk
  rw [hK] at q
  exact PE_imp q fun σ H Q h => tyIs_use (neg := false) (fun m n H Q q => ⟨m, n, rfl, rfl, q⟩) h
theorem st_tyIs {T : String} {x : Str} {p p2 cpos : Pos} (hm : X.mg "type" = none) (hmT : X.mg x = none) (hv : bootBuiltins x = some (.type T)) (ha : PE X a (tE w fa)) (gl : Gl X "type" := by rfl) (glT : Gl X x := by rfl) (hK : X.K = w.K := by rfl)
    (h1 : x ≠ "__name__" := by decide) (h2 : (x == ("__debug__" : Str)) = false := by decide)
    (h3 : starEach [a] X.env = (false, eval a X.env) :: starEach [] X.env := by rfl) (h4 : (backTo cpos (starEach [] X.env)).any (·.1) = false := by rfl) (hmk : behindInMarks .Is (.Name x p2) = false := by rfl) :
    PT X (.Compare (.Call (.Name "type" p) [a] [] cpos) [.Is] [.Name x p2] pos) (tT w (tOf (eTyIs false T fa))) := by
  have q := pt_cmpR (pos := pos) (op_isTyB (X := X)) (pe_callTy (p := p) call_type1 gl hm boot_type' (sa_cons ha sa_nil h3) (by decide) (by decide) h3 h4) (pe_bltn (v := .ty T) (pos := p2) glT hmT hv rfl h1 h2) hmk
  rw [hK] at q
  refine PT_imp q fun σ H Q h => tyIs_use (neg := false) (fun m n H Q q => ⟨m, n, rfl, rfl, q⟩) (tOf_use h)
theorem se_tyIsN {T : String} {x : Str} {p p2 cpos : Pos} (hm : X.mg "type" = none) (hmT : X.mg x = none) (hv : bootBuiltins x = some (.type T)) (ha : PE X a (tE w fa)) (ho : OpR X (compareOp .IsNot) fun x y H Q => ∃ m n, x = .ty m ∧ y = .ty n ∧ Q (.bl (!decide (m = n))) H) (gl : Gl X "type" := by rfl) (glT : Gl X x := by rfl) (hK : X.K = w.K := by rfl)
    (h1 : x ≠ "__name__" := by decide) (h2 : (x == ("__debug__" : Str)) = false := by decide)
    (h3 : starEach [a] X.env = (false, eval a X.env) :: starEach [] X.env := by rfl) (h4 : (backTo cpos (starEach [] X.env)).any (·.1) = false := by rfl) (hmk : behindInMarks .IsNot (.Name x p2) = false := by rfl) :
    PE X (.Compare (.Call (.Name "type" p) [a] [] cpos) [.IsNot] [.Name x p2] pos) (tE w (eTyIs true T fa)) := by
  have q := pe_cmpR (pos := pos) ho (pe_callTy (p := p) call_type1 gl hm boot_type' (sa_cons ha sa_nil h3) (by decide) (by decide) h3 h4) (pe_bltn (v := .ty T) (pos := p2) glT hmT hv rfl h1 h2) hmk
  rw [hK] at q
  exact PE_imp q fun σ H Q h => tyIs_use (neg := true) (fun m n H Q q => ⟨m, n, rfl, rfl, q⟩) h
theorem st_tyIsN {T : String} {x : Str} {p p2 cpos : Pos} (hm : X.mg "type" = none) (hmT : X.mg x = none) (hv : bootBuiltins x = some (.type T)) (ha : PE X a (tE w fa)) (ho : OpR X (compareOp .IsNot) fun x y H Q => ∃ m n, x = .ty m ∧ y = .ty n ∧ Q (.bl (!decide (m = n))) H) (gl : Gl X "type" := by rfl) (glT : Gl X x := by rfl) (hK : X.K = w.K := by rfl)
    (h1 : x ≠ "__name__" := by decide) (h2 : (x == ("__debug__" : Str)) = false := by decide)
    (h3 : starEach [a] X.env = (false, eval a X.env) :: starEach [] X.env := by rfl) (h4 : (backTo cpos (starEach [] X.env)).any (·.1) = false := by rfl) (hmk : behindInMarks .IsNot (.Name x p2) = false := by rfl) :
    PT X (.Compare (.Call (.Name "type" p) [a] [] cpos) [.IsNot] [.Name x p2] pos) (tT w (tOf (eTyIs true T fa))) := by
  have q := pt_cmpR (pos := pos) ho (pe_callTy (p := p) call_type1 gl hm boot_type' (sa_cons ha sa_nil h3) (by decide) (by decide) h3 h4) (pe_bltn (v := .ty T) (pos := p2) glT hmT hv rfl h1 h2) hmk
  rw [hK] at q
  exact PT_imp q fun σ H Q h => tyIs_use (neg := true) (fun m n H Q q => ⟨m, n, rfl, rfl, q⟩) (tOf_use h)

def spI1 (C : Addr) (f : Str) : Sp := fun vs H Q _ => ∃ (a : Addr) (y : V), vs = [.ref a, y] ∧ H a = some (exo a C none) ∧ ∀ dx, H dx = none → dx ≠ a → Q .non (upd (upd H dx (exd dx [(f, y)])) a (exo a C (some dx)))
def spI2 (C : Addr) (f g : Str) : Sp := fun vs H Q _ => ∃ (a : Addr) (y z : V), vs = [.ref a, y, z] ∧ H a = some (exo a C none) ∧ ∀ dx, H dx = none → dx ≠ a → Q .non (upd (upd (upd H dx (exd dx [(f, y)])) a (exo a C (some dx))) dx (exd dx [(g, z), (f, y)]))
/-- what is known of an own error's class -/
structure ErrC (P : Program) (wd : World) (K : PySem.W.Frag) (mg : Str → Option Value) (base : Heap) (CA : ClsAt) (x : Str) (fI : Addr) (fd : FuncData) (ps : List Str) (sp : Addr → Sp) : Prop where
  ox : OexC K (CA x)
  init : PySem.W.findIn K (.ref (CA x)) "__init__" = some (some (.ref fI))
  ty : PySem.W.typeIn K (.ref fI) = some (.type "function")
  F : FnOk P wd K mg base CX0 1 fI fd ps (sp (CA x))
  b : Binds K fd ps []
  m : mg x = some (.ref (CA x))
  te : PySem.W.exmOne K (.ref (CA x)) (.ref (CA x)) = some true
  xf : XfC K (CA x)
def sRaise (x : Str) (fs : List Str) (f : AF) : SF := fun ρ S => (f ρ S).to ρ fun xs S1 => if xs.length = fs.length then .exc x (fs.zip xs).reverse ρ S1 else .bad
theorem s_raise1 {x f : Str} {fI : Addr} {fd : FuncData} {ps : List Str} {e : Expr} {g : AF} {p cpos : Pos} {k : Nat} (T : ErrC X.prog X.w X.K X.mg X.base w.CA x fI fd ps fun C => spI1 C f) (hc : X.calm = true) (tk : Takes X w.W) (hr : Room (k + 2) X.A) (ha : PA X [e] (tA w g)) (gl : Gl X x := by rfl)
    (h1 : (x == ("__debug__" : Str)) = false := by decide) (h2 : starEach [e] X.env = (false, eval e X.env) :: starEach [] X.env := by rfl) (h3 : (backTo cpos (starEach [] X.env)).any (·.1) = false := by rfl) :
    PS X (.Raise (some (.Call (.Name x p) [e] [] cpos)) none pos) (tS w (sRaise x [f] g)) := by
  refine PS_imp (ps_raise hc tk (pmk_oex (pos := cpos) T.ox T.init T.ty T.F (hr.mono (by omega)) T.b .nil pass0 gl T.m ha h1 h2 h3)) fun E σ H ⟨ι, ρ, S, L, Sl, q⟩ => ?_
  refine ⟨ι, ρ, S, L, Sl, PostA.toS Sl q fun ds S1 q1 vs ι1 H1 x1 L1 r1 => ?_⟩
  have hl := r1.length
  by_cases hz : ds.length = [f].length
  · rw [if_pos hz] at q1
    match ds, hz, q1, r1 with
    | [d], _, q1, r1 =>
      obtain ⟨v, rfl, rv⟩ := rel1 r1
      refine ⟨by show 1 ≤ 1000; decide, fun a ha => ⟨a, v, rfl, upd_same, fun dx hdx hne => ⟨rfl, dx, [(f, v)], upd_same, ?_, ?_, ?_⟩⟩⟩
      · rw [upd_ne hne, upd_same]
      · have := hdx; rw [upd_ne hne] at this; exact this
      · have hd1 : H1 dx = none := by have := hdx; rw [upd_ne hne] at this; exact this
        have eH : upd (del (upd (upd (upd H1 a (exo a (w.CA x) none)) dx (exd dx [(f, v)])) a (exo a (w.CA x) (some dx))) a) dx (HO.xd [(f, v)]) = upd H1 dx (.xd [(f, v)]) := by
          funext c
          by_cases z : c = dx
          · subst z; rw [upd_same, upd_same]
          · rw [upd_ne z, upd_ne z]
            unfold del
            by_cases z2 : c = a
            · rw [if_pos z2, z2, ha]
            · rw [if_neg z2, upd_ne z2, upd_ne z, upd_ne z2]
        rw [eH]
        have xn : Ext ι1 H1 ι1 (upd H1 dx (.xd [(f, v)])) := .new hd1
        exact q1 (.ref (w.CA x)) (some dx) σ ι1 _ (x1.trans xn) (L1.fixed hd1) ((Sl.ext x1).ext xn) ⟨rfl, dx, _, rfl, upd_same, by
          show RelK ι1 _ [(f, d)] [(f, v)]
          simp only [RelK]
          exact ⟨v, [], rfl, rv.ext xn, rfl⟩⟩
  · rw [if_neg hz] at q1; exact q1.elim
end
end Z

set_option Elab.async false
set_option linter.all false
set_option maxRecDepth 100000
set_option maxHeartbeats 1000000
namespace Z
variable [Tabs]
open PySem L2 PySem.Spec PyProof.Rows
/-- the caught error: where it stands, its slot, its class, what it keeps -/
structure JX where
  a : Addr
  i : Nat
  cls : Value
  d : Option Addr
  c : Str
  fs : List (Str × D)
def JOk (w : Wd) (J : JX) (ι : List Addr) (H : Hp) (σ : L2.St) : Prop := σ[J.i]? = some (some (.ref J.a)) ∧ ExcR w.CA ι H J.c J.fs J.cls J.d
theorem ExcR.ext {CA : ClsAt} {ι ι1 : List Addr} {H H1 : Hp} {c : Str} {fs : List (Str × D)} {cls : Value} {dd : Option Addr} (x : Ext ι H ι1 H1) (e : ExcR CA ι H c fs cls dd) : ExcR CA ι1 H1 c fs cls dd := by
  obtain ⟨h, d, ws, h1, h2, h3⟩ := e
  exact ⟨h, d, ws, h1, x.keep d _ h2 (.inl rfl), h3.ext x⟩
theorem JOk.ext {w : Wd} {J : JX} {ι ι1 : List Addr} {H H1 : Hp} {σ : L2.St} (x : Ext ι H ι1 H1) (j : JOk w J ι H σ) : JOk w J ι1 H1 σ := ⟨j.1, ExcR.ext x j.2⟩
def tEJ (w : Wd) (J : JX) (f : EF) : TE := fun σ H Q => ∃ ι ρ S, Link w.K ι S H ∧ Slots ι H ρ σ ∧ JOk w J ι H σ ∧ PostE w ι H σ Q (f ρ S)
def tAJ (w : Wd) (J : JX) (f : AF) : TA := fun σ H Q => ∃ ι ρ S, Link w.K ι S H ∧ Slots ι H ρ σ ∧ JOk w J ι H σ ∧ PostA w ι H σ Q (f ρ S)
def tSJ (w : Wd) (J : JX) (g : SF) : TS := fun E σ H => ∃ ι ρ S, Link w.K ι S H ∧ Slots ι H ρ σ ∧ JOk w J ι H σ ∧ PostS w ι H E (g ρ S)
section
variable {X : Cx} {w : Wd} {J : JX} {pos : Pos} {a b : Expr} {fa fb : EF}
theorem je_lift (h : PE X a (tE w fa)) : PE X a (tEJ w J fa) := PE_imp h fun σ H Q ⟨ι, ρ, S, L, Sl, _, p⟩ => ⟨ι, ρ, S, L, Sl, p⟩
theorem js_lift {st : Stmt} {g : SF} (h : PS X st (tS w g)) : PS X st (tSJ w J g) := PS_imp h fun D σ H ⟨ι, ρ, S, L, Sl, _, p⟩ => ⟨ι, ρ, S, L, Sl, p⟩
theorem ja_nil : PA X [] (tAJ w J aNil) := PA_imp pa_nil fun σ H Q ⟨ι, ρ, S, L, Sl, _, p⟩ => p [] ι H (.refl ι H) L (relL_nil.mpr rfl)
theorem ja_cons {e : Expr} {es : List Expr} {f : EF} {g : AF} (ha : PE X e (tEJ w J f)) (hr : PA X es (tAJ w J g)) (hs : starEach (e :: es) X.env = (false, eval e X.env) :: starEach es X.env := by rfl) : PA X (e :: es) (tAJ w J (aCons f g)) := by
  refine PA_imp (pa_cons ha hr hs) fun σ H Q ⟨ι, ρ, S, L, Sl, j, p⟩ => ?_
  refine ⟨ι, ρ, S, L, Sl, j, PostE.thenA p fun d S1 p1 v ι1 H1 x1 L1 r1 => ?_⟩
  refine ⟨ι1, ρ, S1, L1, Sl.ext x1, j.ext x1, PostA.thenA (p1.ext x1) fun ds S2 p2 vs ι2 H2 x2 L2 r2 => ?_⟩
  exact p2 (v :: vs) ι2 H2 x2 L2 (relL_cons.mpr ⟨v, vs, rfl, r1.ext x2, r2⟩)
theorem je_tup {es : List Expr} {k} {f : AF} (h : PA X es (tAJ w J f)) : PE X (.Tuple es k pos) (tEJ w J (eTup f)) := by
  refine PE_imp (pe_tup h) fun σ H Q ⟨ι, ρ, S, L, Sl, j, p⟩ => ?_
  refine ⟨ι, ρ, S, L, Sl, j, PostA.thenE p fun xs S1 p1 vs ι1 H1 x1 L1 r1 => ?_⟩
  split at p1
  · rename_i hz
    exact ⟨by rw [lim_eq, r1.length]; exact hz, post_tup L1 r1 (p1.ext x1)⟩
  · exact p1.elim
theorem je_cmp {op : CmpOp} {g : D → D → Store → R D} (h : CmpRule X w op g) (ha : PE X a (tEJ w J fa)) (hb : PE X b (tEJ w J fb)) (hm : behindInMarks op b = false) : PE X (.Compare a [op] [b] pos) (tEJ w J (eOp g fa fb)) := by
  obtain ⟨⟨r, ho, hg⟩, _⟩ := h
  refine PE_imp (pe_cmpR ho ha hb hm) fun σ H Q ⟨ι, ρ, S, L, Sl, j, p⟩ => ?_
  refine ⟨ι, ρ, S, L, Sl, j, PostE.thenE p fun d S1 p1 v ι1 H1 x1 L1 r1 => ?_⟩
  refine ⟨ι1, ρ, S1, L1, Sl.ext x1, j.ext x1, PostE.thenE (p1.ext x1) fun e S2 p2 u ι2 H2 x2 L2 r2 => ?_⟩
  exact hg ι2 S2 H2 σ d e v u Q L2 (r1.ext x2) r2 (p2.ext x2)
theorem j_set (i : Nat) {x : Str} {pos' : Pos} {e : Expr} {f : EF} (hN : X.N.Nodup) (hi : X.N[i]? = some x) (hx : Loc X.env.scope x) (he : PE X e (tEJ w J f)) (hs : swapsWith e (some (.Name x pos')) pos.line X.env = pure false := by rfl)
    (hf : X.fn x = true ∨ X.env.scope.names.lookup x = some .local := by first | exact .inl rfl | exact .inr rfl | assumption) : PS X (.Assign [.Name x pos'] e pos) (tSJ w J (sSet i f)) := by
  refine PS_imp (ps_set hN hi hx he hs hf) fun D σ H ⟨ι, ρ, S, L, Sl, j, p⟩ => ?_
  exact ⟨ι, ρ, S, L, Sl, j, PostE.toS Sl p fun d S' q v ι' H' x' L' r => q _ ι' H' x' L' ((Sl.ext x').set i r)⟩
theorem js_one {st : Stmt} {g : SF} (h : PS X st (tSJ w J g)) : PSs X [st] (tSJ w J g) := pss_one h
theorem relK_look {ι : List Addr} {H : Hp} {f : Str} {d : D} : ∀ {fs : List (Str × D)} {ws : List (Str × V)}, RelK ι H fs ws → fs.lookup f = some d → ∃ v, ws.lookup f = some v ∧ Rel ι H d v
  | [], _, r, e => by cases e
  | (g, x) :: fs, _, r, e => by
    simp only [RelK] at r
    obtain ⟨v, t, rfl, r1, r2⟩ := r
    by_cases q : (f == g) = true
    · simp only [List.lookup, q] at e ⊢
      cases e
      exact ⟨v, rfl, r1⟩
    · have q' : (f == g) = false := by simpa using q
      simp only [List.lookup, q'] at e ⊢
      exact relK_look r2 e
/-- e.f of the caught error -/
def eXf (fs : List (Str × D)) (f : Str) : EF := fun _ S => match fs.lookup f with
  | some d => .ok d S
  | none => .bad
end
theorem je_xf {X : Cx} {w : Wd} {J : JX} {oe : Obj} {pn : List (Addr × Obj)} {n f : Str} {np pos : Pos} (xc : XfC X.K (w.CA J.c)) (nf : PySem.W.findIn X.K (.ref (w.CA J.c)) f = some none) (z : Zc J.cls J.d oe) (hv : ∃ vs, oe.data = Data.fields vs)
    (hn : PE (X.suite J.a ((J.a, oe) :: pn)) (.Name n np) (tVar J.i)) (h1 : attributeBase (.Name n np) f (X.suite J.a ((J.a, oe) :: pn)).env (eval (.Name n np) (X.suite J.a ((J.a, oe) :: pn)).env) = eval (.Name n np) (X.suite J.a ((J.a, oe) :: pn)).env := by rfl) :
    PE (X.suite J.a ((J.a, oe) :: pn)) (.Attribute (.Name n np) f pos) (tEJ w J (eXf J.fs f)) := by
  refine PE_imp (pe_xf xc nf z hv hn h1) fun σ H Q ⟨ι, ρ, S, L, Sl, j, p⟩ => ?_
  obtain ⟨hs, hc, dd, ws, hd, hw, rk⟩ := j
  unfold eXf at p
  cases e : J.fs.lookup f with
  | none => rw [e] at p; exact p.elim
  | some d =>
    rw [e] at p
    obtain ⟨v, e1, e2⟩ := relK_look rk e
    exact ⟨_, hs, rfl, hc, dd, ws, v, hd, hw, e1, p v ι H (.refl _ _) L e2⟩
/-- try: body; except x as name (slot i): suite -/
def sTryAs (x : Str) (others : List Str) (i : Nat) (g : SF) (h : List (Str × D) → SF) : SF := fun ρ S => match g ρ S with
  | .exc c fs ρ1 S1 => if c = x then (if i < ρ1.length then (match h fs (ρ1.set i none) S1 with
      | .nx ρ2 S2 => .nx (ρ2.set i none) S2
      | .bk ρ2 S2 => .bk (ρ2.set i none) S2
      | .ct ρ2 S2 => .ct (ρ2.set i none) S2
      | .rt d S2 => .rt d S2
      | _ => .bad) else .bad) else if c ∈ others then .exc c fs ρ1 S1 else .bad
  | r => r
theorem s_tryAs {X : Cx} {w : Wd} {pos : Pos} {x n : Str} {others : List Str} {i : Nat} {body suite : List Stmt} {b₀ : Stmt} {np pos' : Pos} {g : SF} {h : List (Str × D) → SF} (hst : X.stack = X.env :: X.outer) (hfr : X.env.frame = some X.env.locals) (hN : X.N.Nodup) (hi : X.N[i]? = some n) (hk : X.env.kindOf n = some .local)
    (nm : Names X x (.ref (w.CA x))) (tk : Takes X w.W) (hm : PySem.W.exmOne w.K (.ref (w.CA x)) (.ref (w.CA x)) = some true) (ho : ∀ c ∈ others, PySem.W.exmOne w.K (.ref (w.CA c)) (.ref (w.CA x)) = some false) (hK : X.K = w.K)
    (hb : ∀ (W : WX) (pn : List (Addr × Obj)) (xe : Value → Shared → Prop), Takes (X.tr pn xe) W → PassesOwn (model X.prog X.w) X.A X.env xe → PSs (X.tr pn xe) body (tS ⟨w.K, w.CA, W⟩ g))
    (hs : ∀ (a : Addr) (oe : Obj) (cls : Value) (d : Option Addr) (pn : List (Addr × Obj)) (fs : List (Str × D)), Zc cls d oe → (∃ vs, oe.data = Data.fields vs) → PSs (X.suite a ((a, oe) :: pn)) (b₀ :: suite) (tSJ w.no ⟨a, i, cls, d, x, fs⟩ (h fs))) :
    PS X (.Try body [.ExceptHandler (some (.Name x np)) (some n) (b₀ :: suite) pos'] [] [] pos) (tS w (sTryAs x others i g h)) := by
  refine PS_imp (ps_try_as (tb := fun W => tS ⟨w.K, w.CA, W⟩ g) (ts := fun a cls d E σ H => ∃ fs, tSJ w.no ⟨a, i, cls, d, x, fs⟩ (h fs) E σ H) hst hfr hN hi hk nm tk hb fun a oe cls d pn hz hv => ⟨fun pins s σ H D I ⟨fs, q⟩ => (hs a oe cls d pn fs hz hv).run pins s σ H D I q⟩) fun D σ H ⟨ι, ρ, S, L, Sl, p⟩ => ⟨ι, ρ, S, L, Sl, ?_⟩
  unfold sTryAs at p
  cases r : g ρ S with
  | nx ρ1 S1 => rw [r] at p; exact p
  | bk ρ1 S1 => rw [r] at p; exact p
  | ct ρ1 S1 => rw [r] at p; exact p
  | rt d S1 => rw [r] at p; exact p
  | bad => rw [r] at p; exact p.elim
  | exc c fs ρ1 S1 =>
    rw [r] at p
    intro cls dd σ1 ι1 H1 x1 L1 Sl1 er
    have hcls := er.1
    dsimp only at p
    by_cases e : c = x
    · subst e
      rw [if_pos rfl] at p
      by_cases hlen : i < ρ1.length
      case neg => rw [if_neg hlen] at p; exact p.elim
      rw [if_pos hlen] at p
      refine ⟨true, by rw [hK, hcls]; exact hm, fun _ a ha => ⟨fs, ι1, ρ1.set i none, S1, L1, ?_, ⟨?_, er⟩, ?_⟩, fun q => by cases q⟩
      · have s1 := Sl1.unset i
        refine ⟨by simpa using s1.len, fun k d e => ?_⟩
        by_cases q : i = k
        · subst q
          have hl : i < ρ1.length := by
            have := (List.getElem?_eq_some_iff.mp e).1
            simpa using this
          rw [List.getElem?_set_self hl] at e; cases e
        · have := s1.get k d e
          rw [List.getElem?_set_ne q] at this ⊢
          exact this
      · have hl : i < σ1.length := by
          rw [← Sl1.len]
          exact hlen
        rw [List.getElem?_set_self hl]
      · cases q : h fs (ρ1.set i none) S1 with
        | nx ρ2 S2 => rw [q] at p; exact fun σ2 ι2 H2 x2 L2 Sl2 => p _ ι2 H2 (x1.trans x2) L2 (Sl2.unset i)
        | bk ρ2 S2 => rw [q] at p; exact fun σ2 ι2 H2 x2 L2 Sl2 => p _ ι2 H2 (x1.trans x2) L2 (Sl2.unset i)
        | ct ρ2 S2 => rw [q] at p; exact fun σ2 ι2 H2 x2 L2 Sl2 => p _ ι2 H2 (x1.trans x2) L2 (Sl2.unset i)
        | rt d S2 => rw [q] at p; exact fun v ι2 H2 x2 => p v ι2 H2 (x1.trans x2)
        | exc c' fs' ρ2 S2 => rw [q] at p; exact p.elim
        | bad => rw [q] at p; exact p.elim
    · rw [if_neg e] at p
      by_cases e2 : c ∈ others
      · rw [if_pos e2] at p
        exact ⟨false, by rw [hK, hcls]; exact ho c e2, fun q => (by cases q), fun _ => p cls dd σ1 ι1 H1 x1 L1 Sl1 er⟩
      · rw [if_neg e2] at p; exact p.elim
end Z

set_option Elab.async false
set_option linter.all false
set_option maxRecDepth 100000
set_option maxHeartbeats 1000000
namespace Z
variable [Tabs]
open PySem L2 PySem.Spec PyProof.Rows
structure At (K : PySem.W.Frag) (mg : Str → Option Value) (x : Str) (st : Stmt) (ps : List Str) (f : Addr) (fd : FuncData) : Prop where
  F : Fun K x x st f fd
  m : mg x = some (.ref f)
  k : PySem.W.keepIn K (.ref f) = true
  b : Binds K fd ps []
section
variable {X : Cx} {w : Wd} {pos : Pos}
theorem s_raise2 {x f g : Str} {fI : Addr} {fd : FuncData} {ps : List Str} {e e' : Expr} {ga : AF} {p cpos : Pos} {k : Nat} (T : ErrC X.prog X.w X.K X.mg X.base w.CA x fI fd ps fun C => spI2 C f g) (hc : X.calm = true) (tk : Takes X w.W) (hr : Room (k + 2) X.A) (ha : PA X [e, e'] (tA w ga)) (gl : Gl X x := by rfl)
    (h1 : (x == ("__debug__" : Str)) = false := by decide) (h2 : starEach [e, e'] X.env = (false, eval e X.env) :: starEach [e'] X.env := by rfl) (h3 : (backTo cpos (starEach [e'] X.env)).any (·.1) = false := by rfl) :
    PS X (.Raise (some (.Call (.Name x p) [e, e'] [] cpos)) none pos) (tS w (sRaise x [f, g] ga)) := by
  refine PS_imp (ps_raise hc tk (pmk_oex (pos := cpos) T.ox T.init T.ty T.F (hr.mono (by omega)) T.b .nil pass0 gl T.m ha h1 h2 h3)) fun E σ H ⟨ι, ρ, S, L, Sl, q⟩ => ?_
  refine ⟨ι, ρ, S, L, Sl, PostA.toS Sl q fun ds S1 q1 vs ι1 H1 x1 L1 r1 => ?_⟩
  by_cases hz : ds.length = [f, g].length
  · rw [if_pos hz] at q1
    match ds, hz, q1, r1 with
    | [d, d'], _, q1, r1 =>
      obtain ⟨v, u, rfl, rv, ru⟩ := rel2 r1
      refine ⟨by show 2 ≤ 1000; decide, fun a ha => ⟨a, v, u, rfl, upd_same, fun dx hdx hne => ⟨rfl, dx, [(g, u), (f, v)], ?_, upd_same, ?_, ?_⟩⟩⟩
      · rw [upd_ne (Ne.symm hne), upd_same]
      · have := hdx; rw [upd_ne hne] at this; exact this
      · have hd1 : H1 dx = none := by have := hdx; rw [upd_ne hne] at this; exact this
        have eH : upd (del (upd (upd (upd (upd H1 a (exo a (w.CA x) none)) dx (exd dx [(f, v)])) a (exo a (w.CA x) (some dx))) dx (exd dx [(g, u), (f, v)])) a) dx (HO.xd [(g, u), (f, v)]) = upd H1 dx (.xd [(g, u), (f, v)]) := by
          funext c
          by_cases z : c = dx
          · subst z; rw [upd_same, upd_same]
          · rw [upd_ne z, upd_ne z]
            unfold del
            by_cases z2 : c = a
            · rw [if_pos z2, z2, ha]
            · rw [if_neg z2, upd_ne z, upd_ne z2, upd_ne z, upd_ne z2]
        rw [eH]
        have xn : Ext ι1 H1 ι1 (upd H1 dx (.xd [(g, u), (f, v)])) := .new hd1
        exact q1 (.ref (w.CA x)) (some dx) σ ι1 _ (x1.trans xn) (L1.fixed hd1) ((Sl.ext x1).ext xn) ⟨rfl, dx, _, rfl, upd_same, by
          show RelK ι1 _ [(g, d'), (f, d)] [(g, u), (f, v)]
          simp only [RelK]
          exact ⟨u, _, rfl, ru.ext xn, v, [], rfl, rv.ext xn, rfl⟩⟩
  · rw [if_neg hz] at q1; exact q1.elim
end
theorem kin_classED {prog : Program} {w : World} {A : Around} {E : Value → Shared → Prop} {s : Shared} {K : PySem.W.Frag} {x D : Addr} {ox od : Obj} {Q : Option Value → Shared → Prop} (T : ExcC K D) (X : K.In s.heap) (I : PySem.W.InstAt s.heap x ox D (some od))
    (h : Q (some (Value.ref D)) { heap := s.heap, gens := s.gens, drawn := s.drawn, toks := s.toks + 1, os := s.os }) : wpAny (model prog w) A (getAttr? (Value.ref x) "__class__") Q E s := by
  have hcl : (PySem.W.clsIn K D).isSome = true := by
    obtain ⟨cd, h, _⟩ := PySem.W.any_some T.hd
    rw [h]; rfl
  have hf := PySem.W.findObj_data (od := od) hcl T.ha T.hn T.ht
  obtain ⟨hp, g, d, t, os⟩ := s
  have L0 := fun M => PySem.W.InstAt.type (M := M) I
  have L1 := fun M => PySem.W.looks_findIn (M := M) X T.hg
  have L2 := fun M => PySem.W.looks_findIn (M := M) X T.hk
  have L3 := fun M => PySem.W.looks_find (M := M) X I hf
  refine wpAny_bind (wpAny_mkText (wpAny_bind (wpAny_attempt (wpAny_holding (wpAny_bind (PySem.W.Looks.at (L0 _) (wpAny_bind (PySem.W.Looks.at (L1 _) ?_))))))))
  dsimp only
  have e0 : (Value.builtin "BaseException.__getattribute__" == Value.builtin "object.__getattribute__") = false := by
    first
      | decide
      | rfl
      | decide +kernel
  rw [if_neg (show ¬ ((onTheHeap (Value.ref D) && (Value.builtin "BaseException.__getattribute__" == Value.builtin "object.__getattribute__")) = true) by rw [e0, Bool.and_false]; exact Bool.false_ne_true)]
  unfold getAttrByItsOwn
  refine wpAny_bind ?_
  unfold hookBefore
  rw [if_pos (show onTheHeap (Value.ref D) = true from rfl)]
  refine PySem.W.Looks.at (L2 _) ?_
  refine wpAny_bind (wpAny_attempt (wpAny_holding ?_))
  unfold callGetattribute
  rw [if_neg (show ¬ ((false && onTheHeap (Value.builtin "BaseException.__getattribute__")) = true) from Bool.false_ne_true)]
  unfold boundAndCalled
  rw [F.excAttr_ValueError.ga.bind (Value.ref x)]
  refine wpAny_bind (wpAny_pure ?_)
  have k1 : builtinKind "BaseException.__getattribute__" = some Manifest.AttrKind.slot := by decide +kernel
  have k2 : splitId "BaseException.__getattribute__" = some ("BaseException", "__getattribute__") := by decide +kernel
  refine wpAny_call ?_
  refine codeAny_call_builtin F.excAttr_ValueError.ga.plain F.entry_bexc_ga ?_
  show wpAny (model prog w) A.in1 (checkBuiltinCall "BaseException.__getattribute__" { pos := [Value.ref x, Value.str "__class__" t], kw := [] }) _ _ _
  refine PySem.W.check_slot (i := "BaseException.__getattribute__") (owner := "BaseException") (n := "__getattribute__") (self := Value.ref x) (rest := [Value.str "__class__" t]) (kw := []) k1 k2 ?_ ?_ ?_
  · exact PySem.W.Looks.andThen (L0 _) (PySem.W.looks_subIn X T.hs)
  · exact F.args_bexc_ga (Value.ref x) (Value.str "__class__" t)
  refine wpAny_bind (wpAny_of_eq (Eq.refl (slotArgs "__getattribute__" 1 { pos := [Value.ref x, Value.str "__class__" t] })) ?_)
  dsimp only
  refine wpAny_bind (wpAny_pure ?_)
  refine wpAny_bind (PySem.W.Looks.at (L0 _) ?_)
  refine wpAny_bind (PySem.W.Looks.at (L3 _) ?_)
  dsimp only
  unfold Builtin.ObjectAttr.bindTo
  refine wpAny_bind (wpAny_holding (wpAny_call (PySem.W.class_get X I T.hm ?_)))
  refine wpAny_pure ?_
  dsimp only
  rw [PySem.W.handedOut_of rfl]
  exact wpAny_pure (wpAny_pure h)
theorem kitxED {K : PySem.W.Frag} {x D : Addr} {ox od : Obj} (T : ExcC K D) : PySem.W.KitX K (Value.ref x) (Value.ref D) fun h => PySem.W.InstAt h x ox D (some od) := by
  obtain ⟨cd, hc, _⟩ := PySem.W.any_some T.hd
  have hl : ∃ o : Obj, List.lookup D K = some o ∧ o.data = Data.cls cd := by
    unfold PySem.W.clsIn at hc
    split at hc
    · rename_i e
      cases hc
      exact ⟨_, e, rfl⟩
    · cases hc
  obtain ⟨o, ho, hd⟩ := hl
  refine ⟨fun M h _ I => PySem.W.InstAt.type I, fun M h X _ => ?_, fun h tp dd its n sl X e => ?_, fun X I q => kin_classED T X I q⟩
  · intro A' Q' E' s' k q
    obtain ⟨cl, di, da, sl⟩ := o
    dsimp only at hd
    subst hd
    exact wpAny_bind (wpAny_loadPart (k D _ (X D _ ho)) (wpAny_pure q))
  · by_cases z : D = tp
    · subst z
      have := X D o ho
      rw [this] at e
      cases e
      cases hd
    · have : (Value.ref D == Value.ref tp) = false := by
        simpa using fun q => z (by cases q; rfl)
      exact this
theorem call_isED {X : Cx} {a D : Addr} {oe : Obj} {pn : List (Addr × Obj)} {d : Option Addr} {cls : Value} (T : ExcC X.K D) (hz : Zc cls d oe) (hf : ∃ vs, oe.data = Data.fields vs) :
    CallR (X.suite a ((a, oe) :: pn)) (.builtin "isinstance") (fun xs H Q => ∃ c dd ws b, xs = [V.ref a, V.ref c] ∧ cls = .ref D ∧ d = some dd ∧ H dd = some (.xd ws) ∧ PySem.W.kitOne X.K (.ref D) (.ref c) = some b ∧ Q (.bl b) H) := by
  rintro pins s σ H xs us Q I r ⟨c, dd, ws, b, rfl, hcl, hd, hw, hk, q⟩
  subst hcl
  obtain ⟨u1, t, rfl, e1, rt⟩ : ∃ u1 t, us = u1 :: t ∧ RelV (.ref a) u1 ∧ Vals [.ref c] t := by
    rcases r with _ | ⟨r1, r2⟩; exact ⟨_, _, rfl, r1, r2⟩
  obtain ⟨u2, rfl, e2⟩ : ∃ u2, t = [u2] ∧ RelV (.ref c) u2 := by
    rcases rt with _ | ⟨r1, r2⟩; rcases r2 with _ | _; exact ⟨_, rfl, r1⟩
  have e1' : u1 = .ref a := e1
  have e2' : u2 = .ref c := e2
  subst e1'; subst e2'
  obtain ⟨hget, _, _, _, _⟩ := I.pin (a, oe) (List.mem_append.mpr (.inl List.mem_cons_self))
  obtain ⟨vs, hv⟩ := hf
  have hx := I.hok dd _ hw
  obtain ⟨mA, hns, _⟩ := hx
  have hod : ∃ od, s.heap.get? dd = some od := by
    obtain ⟨_, _, _, h, _⟩ := hns
    exact ⟨_, h⟩
  obtain ⟨od, hod⟩ := hod
  have inst : PySem.W.InstAt s.heap a oe D (some od) := by
    refine ⟨hget, hz.1, ?_, ?_⟩
    · obtain ⟨oc, oo, oda, osl⟩ := oe
      dsimp only at hv
      subst hv
      rfl
    · rw [hz.2, hd]
      exact hod
  exact PySem.W.kia_one (kitxED T) I.kIn inst hk (fun z => by cases z) fun tk => ⟨V.bl b, H, I.kept fun _ _ z => z, rfl, q⟩
/-- isinstance(e, D), e a caught error of the class c below D -/
structure IsiC (K : PySem.W.Frag) (mg : Str → Option Value) (CA : ClsAt) (c D : Str) : Prop where
  m : ∃ C, mg D = some (.ref C) ∧ PySem.W.kitOne K (.ref (CA c)) (.ref C) = some true
  ec : ExcC K (CA c)
theorem je_isi {X : Cx} {w : Wd} {J : JX} {oe : Obj} {pn : List (Addr × Obj)} {n D : Str} {np dp p pos : Pos} {fI : Addr} {fd : FuncData} {ps : List Str} {sp : Addr → Sp} (T : ErrC X.prog X.w X.K X.mg X.base w.CA J.c fI fd ps sp) (Is : IsiC X.K X.mg w.CA J.c D) (hm : X.mg "isinstance" = none) (z : Zc J.cls J.d oe) (hv : ∃ vs, oe.data = Data.fields vs)
    (hn : PE (X.suite J.a ((J.a, oe) :: pn)) (.Name n np) (tVar J.i)) (gl : Gl (X.suite J.a ((J.a, oe) :: pn)) "isinstance" := by rfl) (glD : Gl (X.suite J.a ((J.a, oe) :: pn)) D := by rfl)
    (h3 : starEach [.Name n np, .Name D dp] (X.suite J.a ((J.a, oe) :: pn)).env = (false, eval (.Name n np) (X.suite J.a ((J.a, oe) :: pn)).env) :: starEach [.Name D dp] (X.suite J.a ((J.a, oe) :: pn)).env := by rfl)
    (h3' : starEach [.Name D dp] (X.suite J.a ((J.a, oe) :: pn)).env = (false, eval (.Name D dp) (X.suite J.a ((J.a, oe) :: pn)).env) :: starEach [] (X.suite J.a ((J.a, oe) :: pn)).env := by rfl)
    (h4 : (backTo pos (starEach [.Name D dp] (X.suite J.a ((J.a, oe) :: pn)).env)).any (·.1) = false := by rfl) (h5 : (D == ("__debug__" : Str)) = false := by decide) (h6 : D ≠ "__name__" := by decide) :
    PE (X.suite J.a ((J.a, oe) :: pn)) (.Call (.Name "isinstance" p) [.Name n np, .Name D dp] [] pos) (tEJ w J (eC (.bl true))) := by
  obtain ⟨C, hC, hk⟩ := Is.m
  refine PE_imp (pe_callB (call_isED Is.ec z hv) gl hm boot_isi' (pa_cons hn (pa_cons (pe_glob (v := .ref C) glD hC rfl h5) pa_nil h3') h3) (by decide) (by decide) h3 h4) fun σ H Q ⟨ι, ρ, S, L, Sl, j, q⟩ => ?_
  obtain ⟨hs, hc, dd, ws, hd, hw, rk⟩ := j
  exact ⟨_, hs, C, dd, ws, true, rfl, hc, hd, hw, hk, q _ ι H (.refl _ _) L (rel_bl.mpr rfl)⟩
/-- the law's promise: True for each script -/
def lawSp : Sp := fun vs H Q _ => ∃ (a : Addr) (o : Obj) (ns : List Int), vs = [.ref a] ∧ H a = some (.frz o (.lst (ns.map V.int))) ∧ (∀ p ∈ Tabs.at_, H p = some (.tbl #[])) ∧ ns.length ≤ 63 ∧ ∀ H', Q (.bl true) H'
theorem lawSp_of {K : PySem.W.Frag} {CA : ClsAt} {fn : Fn} {vs : List V} {H : Hp} {Q : VK} {E : XK} (ht : ∀ ns : List Int, ns.length ≤ 63 → ∃ S', fn [.ob 0] [.frz (ns.map D.int)] = .ok (.bl true) S') (h : lawSp vs H Q E) : spF K CA 1 fn vs H Q E := by
  obtain ⟨a, o, ns, rfl, hH, hT, hl, hQ⟩ := h
  obtain ⟨S', e⟩ := ht ns hl
  refine ⟨rfl, [a], [.ob 0], [.frz (ns.map D.int)], ⟨rfl, by simp, fun p hp => ⟨#[], hT p hp, trivial⟩, fun n b u e1 e2 => ?_⟩, relL_cons.mpr ⟨_, _, rfl, rel_ob.mpr ⟨a, rfl, rfl⟩, relL_nil.mpr rfl⟩, ?_⟩
  · cases n with
    | succ n => simp at e1
    | zero =>
      simp at e1 e2
      subst e1; subst e2
      exact ⟨o, _, hH, RelL.of_ints ns⟩
  · rw [e]
    intro v ι' H' _ _ r
    rw [rel_bl] at r; subst r
    exact hQ H'
theorem fnG_law {P : Program} {w : World} {K : PySem.W.Frag} {mg : Str → Option Value} {base : Heap} {CX : CXT} {k : Nat} {f : Addr} {fd : FuncData} {ps : List Str} {CA : ClsAt} {fn : Fn} (ht : ∀ ns : List Int, ns.length ≤ 63 → ∃ S', fn [.ob 0] [.frz (ns.map D.int)] = .ok (.bl true) S') (hp : ps.length = 1) (G : FnG P w K mg base CX k f fd ps (spF K CA 1 fn)) : FnG P w K mg base CX k f fd ps lawSp :=
  ⟨fun vs H Q E h => by obtain ⟨a, _, _, rfl, _⟩ := h; rw [hp]; rfl, fun A outer s H args us vs Q E hr hgd e0 hb r h => G.run A outer s H args us vs Q E hr hgd e0 hb r (lawSp_of ht h)⟩
omit [Tabs] in
theorem cx_no {P : Program} {w : World} {outer : List PySem.Env} {H : Hp} {s : Shared} {e : Value} {s' : Shared} (z : L2.CX P w outer H s (fun _ _ _ => False) e s') : False := by
  obtain ⟨_, _, _, _, _, _, _, _, _, _, _, _, q⟩ := z
  exact q
def noFields : Data → Bool
  | .fields xs => xs.size != 0
  | _ => true
omit [Tabs] in
theorem noList_of {K : PySem.W.Frag} (h : (K.all fun p => !(p.2.cls == Value.type "list") && noFields p.2.data) = true) {a : Addr} {o : Obj} (e : List.lookup a K = some o) : o.cls ≠ .type "list" ∧ o.data ≠ .fields #[] := by
  have hm : (a, o) ∈ K := by
    clear h
    induction K with
    | nil => cases e
    | cons p r ih =>
      obtain ⟨b, u⟩ := p
      simp only [List.lookup] at e
      split at e
      · rename_i q
        have : a = b := eq_of_beq q
        cases e; subst this; exact List.mem_cons_self ..
      · exact List.mem_cons_of_mem _ (ih e)
  have := List.all_eq_true.mp h _ hm
  obtain ⟨h1, h2⟩ := Bool.and_eq_true_iff.mp this
  refine ⟨fun z => ?_, fun z => ?_⟩
  · simp only at h1; rw [z] at h1; simp at h1
  · simp only at h2; rw [z] at h2; simp [noFields] at h2
theorem kit_of {K : PySem.W.Frag} {C D : Addr} (h1 : PySem.W.isClsIn K D = true) (h2 : PySem.W.typeIn K (.ref D) = some (.type "type")) (h3 : PySem.W.subIn K (.ref C) (.ref D) = some true) : PySem.W.kitOne K (.ref C) (.ref D) = some true := by
  have e : ((PySem.W.clsIn K D).isSome && PySem.W.typeIn K (.ref D) == some (.type "type")) = true := by
    have h1' : (PySem.W.clsIn K D).isSome = true := h1
    rw [h1', h2] <;> rfl
  unfold PySem.W.kitOne
  split
  · rfl
  · show (if ((PySem.W.clsIn K D).isSome && PySem.W.typeIn K (.ref D) == some (.type "type")) = true then PySem.W.subIn K (.ref C) (.ref D) else none) = some true
    rw [if_pos e]; exact h3
end Z

set_option Elab.async false
set_option linter.all false
set_option maxRecDepth 100000
set_option maxHeartbeats 2000000
namespace Z
open PySem L2 PySem.Spec PyProof.Rows
variable [Tabs]

/-- a place in the frame of a generator expression whose name x holds u, which stands for v -/
structure InGen (X : Cx) (H : Hp) (scope : Scope) (x : Str) (v : V) (cenv : PySem.Env) (A' : Around) (u : Value) (t : Shared) : Prop where
  sc : cenv.scope = scope
  gl : cenv.globals = mainGlobals
  mod : L2.Mod X.K X.mg X.base
  bl : cenv.builtins = builtinsNs
  hd : A'.handled = none
  dp : A'.depth ≤ X.A.depth + 1
  un : A'.units ≤ X.A.units + 8
  loc : ∃ m, t.heap.Ns cenv.locals m ∧ m x = some u
  val : RelV v u
  ty : ∀ T, TyB X.K H v T → t.TypeIs u T
  base : ∀ b o, X.base.get? b = some o → t.heap.get? b = some o
/-- what the element tells of v -/
def EltV (X : Cx) (H : Hp) (scope : Scope) (x : Str) (elt : Expr) (v : V) (r : Bool) : Prop :=
  ∀ (cenv : PySem.Env) (A' : Around) (E' : Value → Shared → Prop) (u : Value) (t : Shared), InGen X H scope x v cenv A' u t →
    wpAny (model X.prog X.w) A' (eval elt cenv) (fun y t' => y = .bool r ∧ Keeps t t') E' t
theorem keeps_self (s : Shared) : Keeps s s := ⟨s.heap, s.toks, rfl, fun _ _ e => e⟩
theorem getD_all : ∀ (bs : List Bool), (List.range bs.length).all (fun i => bs.getD i false) = bs.all id := by
  intro bs
  rw [Bool.eq_iff_iff, List.all_eq_true, List.all_eq_true]
  constructor
  · intro h b hb
    obtain ⟨i, hi, e⟩ := List.getElem_of_mem hb
    have := h i (List.mem_range.mpr hi)
    simpa [List.getD_eq_getElem?_getD, hi, e] using this
  · intro h i hi
    have hi' := List.mem_range.mp hi
    have := h _ (List.getElem_mem hi')
    simpa [List.getD_eq_getElem?_getD, hi'] using this
theorem passing_all (n : Nat) : passing (fun _ => true) n 0 = List.range n := by simp [passing]
section
variable {X : Cx} {pins : List (Addr × Obj)} {σ : L2.St} {H : Hp} {s : Shared}
/-- the generator g of the truths bs, to be walked in the state s5 -/
def GenOf (X : Cx) (pins : List (Addr × Obj)) (σ : L2.St) (H1 : Hp) (P : Addr) (bs : List Bool) (g : Addr) (s5 : Shared) : Prop :=
  ∃ (fp wr : List Addr) (G : Array GenState → Array GenState → Prop) (F : Nat → Value → Prop) (St : Nat → Shared → Prop),
    WalksS X.prog X.w X.A.in1 g fp wr G bs.length F St ∧ St 0 s5 ∧ TruthOf X.prog X.w X.A.in1 F (fun i => bs.getD i false) ∧
    ∀ s', Moved wr G s5 s' → ∃ H2, GxR.Tabbed P H1 H2 ∧ L2.Inv X pins σ H2 s'
theorem gen_tup {c P : Addr} {elt iter : Expr} {x : Str} {px gpos : Pos} {scope : Scope} {te : TE} {k : Nat} {Q' : Value → Shared → Prop} {R : List Bool → Hp → Prop}
    (hr : Room k X.A) (TB : GxR.TabB X.base X.mg c P) (hcode : X.env.code = .ref c) (S : GxR.GenS X.env scope x) (hi : PE X iter te)
    (hs : ∀ v, genFold iter X.env v = pure v) (I : L2.Inv X pins σ H s)
    (h : te σ H fun v H1 => ∃ (a : Addr) (vs : List V) (bs : List Bool), v = .ref a ∧ SqT X.K H1 a vs ∧ vs.length = bs.length ∧ (∀ (i : Nat) (v : V) (b : Bool), vs[i]? = some v → bs[i]? = some b → EltV X H1 scope x elt v b) ∧ TabAt H1 P ∧ R bs H1)
    (hQ : ∀ bs H1 g s5, R bs H1 → GenOf X pins σ H1 P bs g s5 → Q' (.ref g) s5) :
    wpAny (model X.prog X.w) X.A (eval (.GeneratorExp elt [⟨.Name x px, iter, [], 0⟩] scope gpos) X.env) Q' X.xe s := by
  refine wpAny_GeneratorExp_walksQD hr.hd S.co (closure_ok S.free) S.cell S.dot S.loc S.kind hr.depth ?_ hs
  refine thn (hi.run pins s σ H _ I h) fun xv s1 ⟨v, H1, I1, r1, q1⟩ => ?_
  obtain ⟨a, vs, bs, rfl, hsq, hlen, hel, ⟨ps, hP, ht⟩, hR⟩ := q1
  obtain rfl : xv = Value.ref a := r1
  obtain ⟨its, rv, hl, _⟩ := I1.tuple hsq
  have hIT : s1.heap.IsTuple a its.toArray := hl
  have hlen' : its.toArray.size = bs.length := by rw [List.size_toArray, ← rv.length, hlen]
  have hlen2 : its.length = vs.length := rv.length.symm
  refine wpAny_pyIter_tuple hIT ?_
  generalize hoi : ({ cls := .type "tuple_iterator", data := .fields #[.ref a, .int 0 0] } : Obj) = oi
  have hit : (s1.heap.push oi).IsTupleIter s1.heap.objs.size a 0 := by
    subst hoi; exact ⟨_, Heap.get?_push_size _ rfl, rfl, rfl⟩
  have ha : a < s1.heap.objs.size := by
    obtain ⟨_, e, _⟩ := _root_.id hIT
    exact Heap.lt_size e
  have hPs : s1.heap.get? P = some { cls := .none, data := .fields ps } := I1.hok P _ hP
  have lP : P < s1.heap.objs.size := Heap.lt_size hPs
  have hPi : (s1.heap.push oi).get? P = some { cls := .none, data := .fields ps } := Heap.get?_push_of_some _ hPs
  have cd : PySem.W.CodeHd (s1.heap.push oi) c P := TB.code.keeps fun b u e => Heap.get?_push_of_some _ (I1.bk b u e)
  have lim : (s1.heap.push oi).NoLimit := I1.nolimit.push oi
  have naP : a ≠ P := fun z => by
    obtain ⟨_, e, hc, _⟩ := _root_.id hIT
    rw [z, hPs] at e; cases e; cases hc
  refine ⟨lim, ?_⟩
  -- with the code object at hand, whichever way it came
  have rest : ∀ (code : Value) (h3 : Heap) (tk : Nat) (more : Array Value), Heap.ExtBut P (s1.heap.push oi) h3 → (s1.heap.push oi).objs.size ≤ h3.objs.size → h3.get? P = some { cls := .none, data := .fields (ps ++ more) } → TriplesOk (ps ++ more).toList →
      wpAny (model X.prog X.w) X.A (builtinsFor X.env.globals X.env.builtins) (fun bi s₄ =>
        ∃ J fp wr n₀ Pf St₀ pz F, Value.ref s1.heap.objs.size = .ref J ∧ (∀ A' : Around, A'.handled = none → Walks X.prog X.w A' J fp wr n₀ Pf St₀) ∧ St₀ 0 s₄.heap ∧ (∀ b ∈ fp, b < s₄.heap.objs.size) ∧ s₄.heap.NoLimit ∧ cStatics ∉ wr ∧
          (∀ href : Heap, (∀ b o, s₄.heap.get? b = some o → href.get? b = some o) →
            QuietGenD X.prog X.w (genEnv scope (cloFrom X.env.cells scope.names []) s₄.heap.objs.size code bi X.env) x [] elt (List.range s₄.heap.objs.size) wr Pf pz F href (X.A.depth + 1) (X.A.units + 8)) ∧
          (∀ g h₅ tk gs, gs.bare = true → s₄.heap.objs.size < g → h₅.objs.size = g + 1 → (∀ b o, s₄.heap.get? b = some o → h₅.get? b = some o) →
            WalksS X.prog X.w X.A.in4 g (g :: s₄.heap.objs.size :: List.range s₄.heap.objs.size) (s₄.heap.objs.size :: wr) (GenOnlyQ s₄.gens.size) (passing pz n₀ 0).length
              (fun j y => ∃ i, (passing pz n₀ 0)[j]? = some i ∧ F i y) (GenAt X.prog X.w X.A.in4 g s₄.gens.size s₄.heap.objs.size (List.range s₄.heap.objs.size) wr pz n₀ F) →
            GenAt X.prog X.w X.A.in4 g s₄.gens.size s₄.heap.objs.size (List.range s₄.heap.objs.size) wr pz n₀ F 0 { s₄ with gens := s₄.gens.push gs, toks := tk, heap := h₅ } →
            Q' (.ref g) { s₄ with gens := s₄.gens.push gs, toks := tk, heap := h₅ })) X.xe { s1 with heap := h3, toks := tk } := by
    intro code h3 tk more hx hsz hP3 ht3
    obtain ⟨bm, ob, e1, e2, e3, e4, e5, e6, e7, e8⟩ := TB.bm
    have hcP : cStatics ≠ P := fun e => by
      obtain ⟨_, ⟨o', es, ep, ho, hd, _⟩, _⟩ := I1.nolimit
      rw [e, hPs] at ho; cases ho; cases hd
    have hcl : cStatics < s1.heap.objs.size := let ⟨_, q, _⟩ := I1.nolimit; q.lt
    have szp : (s1.heap.push oi).objs.size = s1.heap.objs.size + 1 := Heap.size_push ..
    have kp : ∀ b u, b ≠ P → s1.heap.get? b = some u → h3.get? b = some u := fun b u hb e => hx b u hb (Heap.get?_push_of_some _ e)
    refine wpAny_builtinsFor (m := X.mg) (by rw [I1.ok.glob]; exact ((I1.mod.glob.keeps I1.bk).push oi).extBut hx TB.gP) e1 e2 (kp _ _ e4 (I1.bk _ _ e5)) e6 e7 e8 ?_
    have hIT3 : h3.IsTuple a its.toArray := (hIT.push oi).extBut hx naP
    have hit3 : h3.IsTupleIter s1.heap.objs.size a 0 := hit.at fun u e => hx _ u (Nat.ne_of_gt lP) e
    refine ⟨s1.heap.objs.size, [s1.heap.objs.size, a], [s1.heap.objs.size], its.toArray.size, _, _, fun _ => true, fun i y => ∃ b, bs[i]? = some b ∧ y = .bool b, rfl, fun A' hA => Walks.tuple hA s1.heap.objs.size a (Nat.ne_of_lt ha) its.toArray, ⟨hit3, hIT3⟩, fun b hb => ?_, lim.extBut hx hcP, fun hb => ?_, fun href hk => ?_, fun g h5 tk5 gs hgb hag hsz5 hk5 W5 hgat => ?_⟩
    · have l3 : s1.heap.objs.size < h3.objs.size := by omega
      simp only [List.mem_cons, List.not_mem_nil, or_false] at hb
      show b < h3.objs.size
      rcases hb with z | z
      · rw [z]; exact l3
      · rw [z]; exact Nat.lt_trans ha l3
    · exact Nat.ne_of_lt hcl (List.mem_singleton.mp hb)
    · refine ⟨fun A' E' i u t m hA _ _ _ _ _ _ => ?_, fun A' E' i u t m hA hD hU hu _ hn hm hkt => ?_⟩
      · simp only [List.forIn_nil]
        exact wpAny_pure ⟨rfl, keeps_self _⟩
      · have hu' : its[i]? = some u := by simpa using hu
        have hi' : i < its.length := (List.getElem?_eq_some_iff.mp hu').1
        have hvl : i < vs.length := by rw [rv.length]; exact hi'
        obtain ⟨u2, hu2, rvu⟩ := rv.get (List.getElem?_eq_getElem hvl)
        rw [hu'] at hu2; cases hu2
        have hbl : i < bs.length := by omega
        -- what stood at the start still stands
        have old : ∀ b o, b ≠ P → s1.heap.get? b = some o → t.heap.get? b = some o := fun b o hb e => by
          have l := Heap.lt_size e
          refine hkt b (List.mem_range.mpr ?_) (fun z => ?_) o (hk b o (kp b o hb e))
          · exact Nat.lt_of_lt_of_le l (show s1.heap.objs.size ≤ h3.objs.size by omega)
          · rw [List.mem_singleton.mp z] at l; exact Nat.lt_irrefl _ l
        refine wpAny_mono (hel i _ _ (List.getElem?_eq_getElem hvl) (List.getElem?_eq_getElem hbl) _ A' E' u t ⟨rfl, I1.ok.glob, I1.mod, rfl, hA, hD, hU, ⟨m, hn, hm⟩, rvu, fun T hT => ?_, fun b o e => ?_⟩) (fun y t' r => ⟨⟨_, List.getElem?_eq_getElem hbl, r.1⟩, r.2⟩) fun _ _ e => e
        · have q := hT.is I1 rvu
          cases u with
          | ref p =>
            obtain ⟨o, ho, hc⟩ := (show ∃ o, s1.heap.get? p = some o ∧ o.cls = .type T from q)
            exact ⟨o, old p o (fun z => by subst z; rw [hPs] at ho; cases ho; cases hc) ho, hc⟩
          | _ => exact q
        · refine old b o (fun z => ?_) (I1.bk b o e)
          have q := (I1.bs b o e).2
          rw [z, hP] at q; cases q
    · rw [passing_all, List.length_range] at W5
      have nw : ∀ b u, s1.heap.get? b = some u → b ∉ h3.objs.size :: [s1.heap.objs.size] := fun b u e hb => by
        have l := Heap.lt_size e
        simp only [List.mem_cons, List.not_mem_nil, or_false] at hb
        rcases hb with z | z
        · rw [z] at l
          have : (h3.objs.size : Nat) < s1.heap.objs.size := l
          omega
        · rw [z] at l; exact Nat.lt_irrefl _ l
      have sz : its.toArray.size = bs.length := hlen'
      rw [sz] at W5 hgat
      refine hQ bs H1 g _ hR ⟨_, _, _, _, _, W5.in4_1, hgat, fun i v t Qt Et hv hq => ?_, fun s' hm => ?_⟩
      · obtain ⟨j, hj, b, hb, rfl⟩ := hv
        obtain ⟨hl2, ej⟩ := List.getElem?_eq_some_iff.mp hj
        rw [List.getElem_range] at ej
        subst ej
        refine wpAny_truthy_bool ?_
        simpa [List.getD_eq_getElem?_getD, hb] using hq
      · have J := GxR.inv_tab (more := more) (h' := s'.heap) (g' := s'.gens) (d' := s'.drawn) (t' := s'.toks) I1 hP (fun b u hb e => hm.heap b u (nw b u e) (hk5 b u (kp b u hb e)))
          (hm.heap P _ (nw P _ hPs) (hk5 P _ hP3)) (AllBare.movedS (I1.bare.push hgb) hm)
        rw [GxR.sh_eta s1 s' hm.os] at J
        exact ⟨upd H1 P (.tbl (ps ++ more)), ⟨⟨_, upd_same, ht3⟩, fun b hb => upd_ne hb⟩, J⟩
  cases hf : codeAmong gpos ps.toList with
  | none =>
    refine wpAny_genexprCodeX hcode (cd.code hPi ht) (cd.tab hPi) hf fun c' h' tk hx hge hlt hco _ htab _ => ?_
    obtain ⟨_, _, _, _, _, _, _, _, _, _, _, _, _, _, _, _, _, _, _, htr, _⟩ := hco
    exact rest _ h' tk _ hx (Nat.le_trans hge (Nat.le_of_lt hlt)) htab.2 htr
  | some cv =>
    refine wpAny_genexprCode_hit hcode (cd.code hPi ht) hf ?_
    exact rest cv (s1.heap.push oi) s1.toks #[] (Heap.ExtBut.refl _ _) (Nat.le_refl _) (by rw [Array.append_empty]; exact hPi) (by rw [Array.append_empty]; exact ht)
end
section
variable {X : Cx} {w : Wd}
/-- all(test of x for x in a tuple): what the test tells of each thing -/
def allT (te : D → Store → Option Bool) (S : Store) : List D → Option (List Bool)
  | [] => some []
  | d :: ds => match te d S, allT te S ds with
    | some b, some bs => some (b :: bs)
    | _, _ => none
def eAllG (te : D → Store → Option Bool) (f : EF) : EF := fun ρ S => (f ρ S).bind fun d S1 => match d with
  | .tup xs => (match allT te S1 xs with
    | some bs => .ok (.bl (bs.all id)) S1
    | none => .bad)
  | _ => .bad
theorem allT_get {te : D → Store → Option Bool} {S : Store} : ∀ {ds : List D} {bs : List Bool}, allT te S ds = some bs → ds.length = bs.length ∧ ∀ (i : Nat) (d : D) (b : Bool), ds[i]? = some d → bs[i]? = some b → te d S = some b
  | [], bs, h => by cases h; exact ⟨rfl, fun i d b e => by simp at e⟩
  | d :: ds, bs, h => by
    simp only [allT] at h
    cases e1 : te d S with
    | none => rw [e1] at h; cases h
    | some b =>
      cases e2 : allT te S ds with
      | none => rw [e1, e2] at h; cases h
      | some r =>
        rw [e1, e2] at h
        cases h
        obtain ⟨l, g⟩ := allT_get e2
        refine ⟨by simp [l], fun i x c h1 h2 => ?_⟩
        cases i with
        | zero => simp at h1 h2; subst h1; subst h2; exact e1
        | succ i => exact g i x c (by simpa using h1) (by simpa using h2)
theorem TabAt.of {H H' : Hp} {P q : Addr} (h : GxR.Tabbed P H H') (t : TabAt H q) : TabAt H' q := by
  by_cases z : q = P
  · subst z; exact h.1
  · obtain ⟨ps, e, k⟩ := t
    exact ⟨ps, by rw [h.2 q z]; exact e, k⟩
theorem Ext.tab {ι : List Addr} {H H' : Hp} {P : Addr} (t : TabAt H P) (h : GxR.Tabbed P H H') : Ext ι H ι H' := by
  obtain ⟨ps, e, _⟩ := t
  refine ⟨⟨[], by simp, by simp⟩, fun a o q f => ?_, fun a o q => ?_⟩
  · rw [h.2 a (fun z => ?_)]; exact q
    subst z
    rw [e] at q; cases q
    rcases f with f | ⟨_, f⟩ <;> exact Bool.noConfusion f
  · by_cases z : a = P
    · subst z
      obtain ⟨ps', e', _⟩ := h.1
      exact ⟨_, e'⟩
    · exact ⟨o, by rw [h.2 a z]; exact q⟩
theorem Link.tabbed {K : PySem.W.Frag} {ι : List Addr} {S : Store} {H H' : Hp} {P : Addr} (L : Link K ι S H) (t : TabAt H P) (h : GxR.Tabbed P H H') : Link K ι S H' := by
  refine ⟨L.len, L.nd, fun q hq => (L.tab q hq).of h, fun n a o e1 e2 => ?_⟩
  have r := L.obj n a o e1 e2
  refine r.ext (.tab t h) (h.2 a fun z => ?_)
  subst z
  obtain ⟨ps, e, _⟩ := t
  cases o with
  | lst xs => obtain ⟨vs, q, _⟩ := r; rw [e] at q; cases q
  | frz xs => obtain ⟨o, vs, q, _⟩ := r; rw [e] at q; cases q
  | dct xs => obtain ⟨vs, q, _⟩ := r; rw [e] at q; cases q
theorem boot_all' : bootBuiltins "all" = some (.builtin "all") := by decide +kernel
theorem boot_any' : bootBuiltins "any" = some (.builtin "any") := by decide +kernel
theorem se_allG {c P : Addr} {elt iter : Expr} {x : Str} {px p pos gpos : Pos} {scope : Scope} {f : EF} {te : D → Store → Option Bool} {k : Nat}
    (hP : P ∈ Tabs.at_) (TB : GxR.TabB X.base X.mg c P) (hcode : X.env.code = .ref c) (hr : Room k X.A) (hm : X.mg "all" = none) (Sc : GxR.GenS X.env scope x) (hi : PE X iter (tE w f))
    (hel : ∀ (ι : List Addr) (S : Store) (H : Hp) (d : D) (v : V) (b : Bool), Link w.K ι S H → Rel ι H d v → te d S = some b → EltV X H scope x elt v b)
    (hg : Gl X "all" := by rfl) (hK : X.K = w.K := by rfl) (hs : ∀ v, genFold iter X.env v = pure v := by exact fun _ => rfl)
    (he : starEach [.GeneratorExp elt [⟨.Name x px, iter, [], 0⟩] scope gpos] X.env = (false, eval (.GeneratorExp elt [⟨.Name x px, iter, [], 0⟩] scope gpos) X.env) :: starEach [] X.env := by rfl) :
    PE X (.Call (.Name "all" p) [.GeneratorExp elt [⟨.Name x px, iter, [], 0⟩] scope gpos] [] pos) (tE w (eAllG te f)) := by
  refine ⟨fun pins s σ H Q I h => ?_⟩
  refine wpAny_Call_Name_kw (ld_blt I hg hm boot_all' ?_)
  refine PyProof.Rows.callWith_builtin1 ?_ he (by rfl)
  rw [he]
  show wpAny _ _ (spliced ((false, eval (.GeneratorExp elt [⟨.Name x px, iter, [], 0⟩] scope gpos) X.env) :: backTo pos (starEach [] X.env))) _ _ s
  refine Calls.spliced_cons (gen_tup (R := fun bs H1 => ∀ H2, GxR.Tabbed P H1 H2 → Q (.bl (bs.all id)) H2) hr TB hcode Sc hi hs I ?_ fun bs H1 g s5 hR hG => ?_)
  · obtain ⟨ι, ρ, S, L, Sl, q⟩ := h
    refine ⟨ι, ρ, S, L, Sl, PostE.thenE q fun d S1 q1 v ι1 H1 x1 L1 r1 => ?_⟩
    cases d with
    | tup xs =>
      dsimp only at q1
      cases e : allT te S1 xs with
      | none => rw [e] at q1; exact q1.elim
      | some bs =>
        rw [e] at q1
        obtain ⟨a, vs, rfl, hv, rl⟩ := rel_tup.mp r1
        obtain ⟨l, g⟩ := allT_get e
        refine ⟨a, vs, bs, rfl, SqT.of hv, by rw [rl.length]; exact l, fun i v b h1 h2 => ?_, L1.tab P hP, fun H2 hT => ?_⟩
        · obtain ⟨d, hd, rd⟩ := rl.getV h1
          exact hel ι1 S1 H1 d v b L1 rd (g i d b hd h2)
        · exact q1 _ ι1 H2 (x1.trans (.tab (L1.tab P hP) hT)) (L1.tabbed (L1.tab P hP) hT) (rel_bl.mpr rfl)
    | _ => exact q1.elim
  · obtain ⟨fp, wr, G, F, St, W, hst, htr, hI⟩ := hG
    refine Calls.spliced_nil (call_all_walkS (W.self 0 _ _ _ hst ⟨g, fp, wr, G, _, F, St, _, rfl, W, hst, htr, fun s' hmv => ?_⟩))
    obtain ⟨H2, hT, J⟩ := hI s' hmv
    refine ⟨.bl _, H2, J, rfl, ?_⟩
    rw [getD_all]
    exact hR H2 hT
end
/-- a frame of a def or of a generator expression, whatever runs around it -/
structure Fm (K : PySem.W.Frag) (mg : Str → Option Value) (base : Heap) (env : PySem.Env) (t : Shared) : Prop where
  kind : env.scope.kind = .function
  gl : env.globals = mainGlobals
  bl : env.builtins = builtinsNs
  mod : L2.Mod K mg base
  bk : ∀ b o, base.get? b = some o → t.heap.get? b = some o
/-- a local name holds u -/
def Loc (env : PySem.Env) (t : Shared) (x : Str) (u : Value) : Prop := env.kindOf x = some .local ∧ ∃ m, t.heap.Ns env.locals m ∧ m x = some u
theorem keeps_trans {s t r : Shared} (a : Keeps s t) (b : Keeps t r) : Keeps s r := by
  obtain ⟨h1, k1, rfl, q1⟩ := a
  obtain ⟨h2, k2, rfl, q2⟩ := b
  exact ⟨h2, k2, rfl, fun x o e => q2 x o (q1 x o e)⟩
theorem keeps_get {s t : Shared} (a : Keeps s t) {b : Addr} {o : Obj} (e : s.heap.get? b = some o) : t.heap.get? b = some o := by
  obtain ⟨h1, k1, rfl, q1⟩ := a
  exact q1 b o e
theorem keeps_toks (s : Shared) (k : Nat) : Keeps s { s with toks := k } := ⟨s.heap, k, rfl, fun _ _ e => e⟩
theorem Loc.keeps {env : PySem.Env} {t t' : Shared} {x : Str} {u : Value} (l : Loc env t x u) (k : Keeps t t') : Loc env t' x u := by
  obtain ⟨h, m, n, e⟩ := l
  exact ⟨h, m, n.keeps fun b o q => keeps_get k q, e⟩
theorem typeIs_keeps {t t' : Shared} {u : Value} {T : String} (k : Keeps t t') (h : t.TypeIs u T) : t'.TypeIs u T := by
  cases u with
  | ref p =>
    obtain ⟨o, ho, hc⟩ := (show ∃ o, t.heap.get? p = some o ∧ o.cls = .type T from h)
    exact ⟨o, keeps_get k ho, hc⟩
  | _ => exact h
section
variable {prog : Program} {wd : World} {K : PySem.W.Frag} {mg : Str → Option Value} {base : Heap} {env : PySem.Env} {t : Shared} {A : Around} {Q : Value → Shared → Prop} {E : Value → Shared → Prop}
theorem Fm.keeps {t' : Shared} (F : Fm K mg base env t) (k : Keeps t t') : Fm K mg base env t' := ⟨F.kind, F.gl, F.bl, F.mod, fun b o e => keeps_get k (F.bk b o e)⟩
theorem fm_loc {M : Model} {x : Str} {u : Value} {pos : Pos} (F : Fm K mg base env t) (l : Loc env t x u) (h : Q u t) (hd : (x == ("__debug__" : Str)) = false := by decide) : wpAny M A (eval (.Name x pos) env) Q E t := by
  obtain ⟨h1, m, n, e⟩ := l
  exact wpAny_Name (wpAny_loadName_local F.kind h1 n e h) hd
theorem fm_glob {M : Model} {x : Str} {u : Value} {pos : Pos} (F : Fm K mg base env t) (g : env.kindOf x = some .globalImplicit) (hm : mg x = some u) (h : Q u t) (hd : (x == ("__debug__" : Str)) = false := by decide) : wpAny M A (eval (.Name x pos) env) Q E t :=
  Calls.Name_function_global F.kind g (Calls.loadGlobal_global (by rw [F.gl]; exact F.mod.glob.keeps F.bk) hm h) hd
theorem fm_blt {M : Model} {x : Str} {u : Value} {pos : Pos} (F : Fm K mg base env t) (g : env.kindOf x = some .globalImplicit) (hm : mg x = none) (hv : bootBuiltins x = some u) (h : Q u t) (hn : x ≠ "__name__" := by decide) (hd : (x == ("__debug__" : Str)) = false := by decide) : wpAny M A (eval (.Name x pos) env) Q E t := by
  obtain ⟨mb, h1, h2⟩ := F.mod.blt
  exact Calls.Name_function_global F.kind g (Calls.loadGlobal_builtin (by rw [F.gl]; exact F.mod.glob.keeps F.bk) hm (by rw [F.bl]; exact h1.keeps F.bk) ((h2 x hn).trans hv) h) hd
/-- type(x) is int -/
theorem ev_isInt {x : Str} {u : Value} {T : String} {p1 px p2 cp pos : Pos} (F : Fm K mg base env t) (l : Loc env t x u) (ty : t.TypeIs u T) (nb : (Value.type T == Value.type "builtin_function_or_method") = false)
    (g1 : env.kindOf "type" = some .globalImplicit) (g2 : env.kindOf "int" = some .globalImplicit) (m1 : mg "type" = none) (m2 : mg "int" = none) (h : Q (.bool (decide (T = "int"))) t) (hd : (x == ("__debug__" : Str)) = false := by decide)
    (he : starEach [Expr.Name x px] env = (false, eval (.Name x px) env) :: starEach [] env := by rfl) :
    wpAny (model prog wd) A (eval (.Compare (.Call (.Name "type" p1) [.Name x px] [] cp) [.Is] [.Name "int" p2] pos) env) Q E t := by
  refine wpAny_Compare1 (wpAny_Call_Name_kw (fm_blt F g1 m1 boot_type' ?_)) rfl
  rw [he]
  refine callWith_type1 (fm_loc F l ?_ hd)
  refine call_type_of ty nb (fm_blt F g2 m2 boot_int' ?_)
  refine wpAny_is_plain rfl ?_
  have e : (Value.type T == Value.type "int") = decide (T = "int") := ty_beq _ _
  rw [e]; exact h
/-- type(x) is int and lo <= x <= hi -/
theorem ev_whole {x y z : Str} {u : Value} {T : String} {lo hi : Int} {tl th : Tok} {r : Bool} {p1 px p2 cp pos q1 q2 q3 q4 q5 : Pos} (F : Fm K mg base env t) (l : Loc env t x u) (ly : Loc env t y (.int lo tl)) (lz : Loc env t z (.int hi th)) (ty : t.TypeIs u T) (nb : (Value.type T == Value.type "builtin_function_or_method") = false)
    (hr : (T ≠ "int" ∧ r = false) ∨ ∃ i ti, u = .int i ti ∧ T = "int" ∧ r = (decide (lo ≤ i) && decide (i ≤ hi)))
    (g1 : env.kindOf "type" = some .globalImplicit) (g2 : env.kindOf "int" = some .globalImplicit) (m1 : mg "type" = none) (m2 : mg "int" = none) (h : Q (.bool r) t)
    (dx : (x == ("__debug__" : Str)) = false := by decide) (dy : (y == ("__debug__" : Str)) = false := by decide) (dz : (z == ("__debug__" : Str)) = false := by decide)
    (he : starEach [Expr.Name x px] env = (false, eval (.Name x px) env) :: starEach [] env := by rfl) :
    wpAny (model prog wd) A (eval (.BoolOp .And [.Compare (.Call (.Name "type" p1) [.Name x px] [] cp) [.Is] [.Name "int" p2] pos, .Compare (.Name y q1) [.LtE, .LtE] [.Name x q2, .Name z q3] q4] q5) env) Q E t := by
  refine wpAny_And2 (ev_isInt F l ty nb g1 g2 m1 m2 (wpAny_truthy_bool ?_) dx he)
  rcases hr with ⟨n, rfl⟩ | ⟨i, ti, rfl, e, rfl⟩
  · rw [if_neg (by simp [n])]
    rw [decide_eq_false n]; exact h
  · rw [if_pos (by simp [e])]
    refine Compare_chain (fm_loc F ly ?_ dy) rfl
    refine chain_link (fm_loc F l ?_ dx)
    refine le_int (wpAny_truthy_bool ?_)
    by_cases c : lo ≤ i
    · rw [if_pos (by simp [c])]
      refine chain_last (fm_loc F lz (le_int ?_) dz)
      simpa [c] using h
    · rw [if_neg (by simp [c])]
      simpa [c] using h
/-- a call of a def with the body «return type(x) is int and lo <= x <= hi», from any frame -/
theorem run_whole {x y z nm : Str} {f : Addr} {st : Stmt} {fd : FuncData} {N : List Str} {u : Value} {T : String} {lo hi : Int} {tl th : Tok} {r : Bool} {p1 px p2 cp pos q1 q2 q3 q4 q5 q6 : Pos} (Fd : Fun K nm nm st f fd) (Sc : FnScope N [x, y, z] (defScope st)) (hb : Binds K fd [x, y, z] [])
    (hst : defBody st = [.Return (some (.BoolOp .And [.Compare (.Call (.Name "type" p1) [.Name x px] [] cp) [.Is] [.Name "int" p2] pos, .Compare (.Name y q1) [.LtE, .LtE] [.Name x q2, .Name z q3] q4] q5)) q6])
    (g0 : (defScope st).names.lookup x = some .local) (g0y : (defScope st).names.lookup y = some .local) (g0z : (defScope st).names.lookup z = some .local)
    (nxy : y ≠ x) (nxz : z ≠ x) (nyz : z ≠ y)
    (g1 : (defScope st).names.lookup ("type" : Str) = some .globalImplicit) (g2 : (defScope st).names.lookup ("int" : Str) = some .globalImplicit)
    (M : L2.Mod K mg base) (bk : ∀ b o, base.get? b = some o → t.heap.get? b = some o) (dp : A.depth < recursionLimit) (ty : t.TypeIs u T) (nb : (Value.type T == Value.type "builtin_function_or_method") = false)
    (hr : (T ≠ "int" ∧ r = false) ∨ ∃ i ti, u = .int i ti ∧ T = "int" ∧ r = (decide (lo ≤ i) && decide (i ≤ hi))) (m1 : mg "type" = none) (m2 : mg "int" = none) (h : ∀ t', Keeps t t' → Q (.bool r) t')
    (dx : (x == ("__debug__" : Str)) = false := by decide) (dy : (y == ("__debug__" : Str)) = false := by decide) (dz : (z == ("__debug__" : Str)) = false := by decide) :
    wpAny (model prog wd) A (call (.ref f) [u, .int lo tl, .int hi th]) Q E t := by
  obtain ⟨oc, od, kV, doc, pm, an, cdv, ct, osl, rfl, lk, hcd⟩ := Fd.ex
  have KX : K.In t.heap := M.kin.keeps bk
  have lim := Heap.NoLimit.keeps M.nolimit bk
  refine wpAny_call (codeAny_call_function dp (KX f _ lk) rfl Sc.co Sc.gen rfl (PySem.W.codeRec_of KX hcd) (hb t [u, .int lo tl, .int hi th] KX rfl (model prog wd) A.in1 _ _ ?_))
  refine wpAny_newFunctionEnv_cells Sc.kind ?_ fun env he s1 xc => ?_
  · rintro ⟨n, v⟩ hy
    rcases Sc.par n (List.of_mem_zip hy).left with q | q
    · exact .inl q
    · exact .inr ⟨q, PySem.W.cellsFrom_some _ _ _ (Or.inl q)⟩
  have ks : Keeps t s1 := by
    obtain ⟨h', tk, e⟩ := xc.toInCall.same
    subst e
    exact ⟨h', tk, rfl, xc.toInCall.keep⟩
  refine ⟨Heap.NoLimit.keeps lim xc.toInCall.keep, codeAny_func ?_⟩
  have kx : env.kindOf x = some .local := by rw [he]; exact g0
  have ky : env.kindOf y = some .local := by rw [he]; exact g0y
  have kz : env.kindOf z = some .local := by rw [he]; exact g0z
  have ns := xc.toInCall.ns
  have F : Fm K mg base env s1 := by
    refine ⟨by rw [he]; exact Sc.kind, by rw [he]; rfl, by rw [he]; rfl, M, fun b o e => keeps_get ks (bk b o e)⟩
  have lx : Loc env s1 x u := ⟨kx, _, ns, by simp [bindL, kx, ky, kz, nxy.symm, nxz.symm, nyz, nxy, nxz]⟩
  have ly : Loc env s1 y (.int lo tl) := ⟨ky, _, ns, by simp [bindL, kx, ky, kz, nxy, nxz, nyz, nyz.symm]⟩
  have lz : Loc env s1 z (.int hi th) := ⟨kz, _, ns, by simp [bindL, kx, ky, kz, nxy, nxz, nyz]⟩
  have e : defBody st = _ := hst
  show wpAny _ _ (execs (defBody st) env) _ _ _
  rw [e]
  refine wpAny_execs_cons (wpAny_Return_some ?_)
  exact ev_whole F lx ly lz (typeIs_keeps ks ty) nb hr (by rw [he]; exact g1) (by rw [he]; exact g2) m1 m2 (h _ ks) dx dy dz
end
section
variable {X : Cx} {w : Wd} {scope : Scope} {x : Str} {v : V} {r : Bool}
theorem InGen.fm {H : Hp} {cenv : PySem.Env} {A' : Around} {u : Value} {t : Shared} (g : InGen X H scope x v cenv A' u t) (hk : scope.kind = .function) : Fm X.K X.mg X.base cenv t := ⟨by rw [g.sc]; exact hk, g.gl, g.bl, g.mod, g.base⟩
theorem InGen.here {H : Hp} {cenv : PySem.Env} {A' : Around} {u : Value} {t : Shared} (g : InGen X H scope x v cenv A' u t) (hx : scope.names.lookup x = some .local) : Loc cenv t x u := ⟨by show cenv.scope.names.lookup x = _; rw [g.sc]; exact hx, g.loc⟩
/-- type(x) is int -/
def teInt : D → Store → Option Bool := fun d S => (tyD S d).map fun T => decide (T = "int")
/-- a whole number from lo to hi -/
def teWhole (lo hi : Int) : D → Store → Option Bool
  | .int i, _ => some (decide (lo ≤ i) && decide (i ≤ hi))
  | d, S => (tyD S d).map fun _ => false
theorem elt_isInt {p1 px p2 cp pos : Pos} (hk : scope.kind = .function) (hx : scope.names.lookup x = some .local) (g1 : scope.names.lookup ("type" : Str) = some .globalImplicit) (g2 : scope.names.lookup ("int" : Str) = some .globalImplicit) (m1 : X.mg "type" = none) (m2 : X.mg "int" = none)
    (hd : (x == ("__debug__" : Str)) = false := by decide) (hK : X.K = w.K := by rfl)
    (ι : List Addr) (S : Store) (H : Hp) (d : D) (v : V) (b : Bool) (L : Link w.K ι S H) (rv : Rel ι H d v) (h : teInt d S = some b) : EltV X H scope x (.Compare (.Call (.Name "type" p1) [.Name x px] [] cp) [.Is] [.Name "int" p2] pos) v b := by
  intro cenv A' E' u t g
  unfold teInt at h
  cases e : tyD S d with
  | none => rw [e] at h; cases h
  | some T =>
    rw [e] at h
    cases h
    have ty := L.tyB e rv
    rw [← hK] at ty
    exact ev_isInt (g.fm hk) (g.here hx) (g.ty T ty) ty.nb (by show cenv.scope.names.lookup _ = _; rw [g.sc]; exact g1) (by show cenv.scope.names.lookup _ = _; rw [g.sc]; exact g2) m1 m2 ⟨rfl, keeps_self _⟩ hd
theorem whole_ty {ι : List Addr} {S : Store} {H : Hp} {d : D} {v : V} {b : Bool} {lo hi : Int} {K : PySem.W.Frag} (L : Link K ι S H) (rv : Rel ι H d v) (h : teWhole lo hi d S = some b) :
    ∃ T, TyB K H v T ∧ ((T ≠ "int" ∧ b = false) ∨ ∃ i, v = .int i ∧ T = "int" ∧ b = (decide (lo ≤ i) && decide (i ≤ hi))) := by
  have no : ∀ T, tyD S d = some T → T ≠ "int" → b = false → ∃ T, TyB K H v T ∧ ((T ≠ "int" ∧ b = false) ∨ ∃ i, v = .int i ∧ T = "int" ∧ b = (decide (lo ≤ i) && decide (i ≤ hi))) := fun T e n f => ⟨T, L.tyB e rv, .inl ⟨n, f⟩⟩
  cases d with
  | int i =>
    simp only [teWhole] at h; cases h
    refine ⟨"int", L.tyB (d := .int i) rfl rv, .inr ⟨i, rel_int.mp rv, rfl, rfl⟩⟩
  | non => simp only [teWhole, tyD, Option.map] at h; cases h; exact no _ rfl (by decide) rfl
  | bl k => simp only [teWhole, tyD, Option.map] at h; cases h; exact no _ rfl (by decide) rfl
  | str k => simp only [teWhole, tyD, Option.map] at h; cases h; exact no _ rfl (by decide) rfl
  | tup k => simp only [teWhole, tyD, Option.map] at h; cases h; exact no _ rfl (by decide) rfl
  | ob n =>
    simp only [teWhole] at h
    cases e : tyD S (.ob n) with
    | none => rw [e] at h; cases h
    | some T =>
      rw [e] at h; cases h
      refine no T e (fun z => ?_) rfl
      subst z
      simp only [tyD] at e
      split at e <;> first | exact absurd (Option.some.inj e) (by decide) | cases e
/-- is_whole(x, -C, C), C a module's constant -/
theorem elt_whole {nm cn a1 a2 a3 : Str} {f : Addr} {fd : FuncData} {st : Stmt} {N : List Str} {n : Int} {p0 px p2 p3 p4 cp r1 r2 r3 r4 r5 r6 r7 r8 r9 r10 : Pos} (A : At X.K X.mg nm st [a1, a2, a3] f fd) (Sc : FnScope N [a1, a2, a3] (defScope st))
    (hst : defBody st = [.Return (some (.BoolOp .And [.Compare (.Call (.Name "type" r1) [.Name a1 r2] [] r3) [.Is] [.Name "int" r4] r5, .Compare (.Name a2 r6) [.LtE, .LtE] [.Name a1 r7, .Name a3 r8] r9] r10)) p0])
    (hcn : ∃ tk, X.mg cn = some (.int n tk)) (dp : X.A.depth + 1 < recursionLimit)
    (hk : scope.kind = .function) (hx : scope.names.lookup x = some .local) (g1 : scope.names.lookup nm = some .globalImplicit) (g2 : scope.names.lookup cn = some .globalImplicit)
    (k1 : (defScope st).names.lookup a1 = some .local) (k2 : (defScope st).names.lookup a2 = some .local) (k3 : (defScope st).names.lookup a3 = some .local) (n12 : a2 ≠ a1) (n13 : a3 ≠ a1) (n23 : a3 ≠ a2)
    (k4 : (defScope st).names.lookup ("type" : Str) = some .globalImplicit) (k5 : (defScope st).names.lookup ("int" : Str) = some .globalImplicit) (m1 : X.mg "type" = none) (m2 : X.mg "int" = none)
    (hd : (x == ("__debug__" : Str)) = false := by decide) (hd2 : (nm == ("__debug__" : Str)) = false := by decide) (hd3 : (cn == ("__debug__" : Str)) = false := by decide) (e1 : (a1 == ("__debug__" : Str)) = false := by decide) (e2 : (a2 == ("__debug__" : Str)) = false := by decide) (e3 : (a3 == ("__debug__" : Str)) = false := by decide) (hK : X.K = w.K := by rfl)
    (ι : List Addr) (S : Store) (H : Hp) (d : D) (v : V) (b : Bool) (L : Link w.K ι S H) (rv : Rel ι H d v) (h : teWhole (-n) n d S = some b) :
    EltV X H scope x (.Call (.Name nm px) [.Name x p2, .UnaryOp .USub (.Name cn p3) p4, .Name cn cp] [] pos) v b := by
  intro cenv A' E' u t g
  obtain ⟨T, ty, hb⟩ := whole_ty L rv h
  rw [← hK] at ty
  obtain ⟨tk, hcn⟩ := hcn
  have F := g.fm hk
  have gc : cenv.kindOf cn = some .globalImplicit := by show cenv.scope.names.lookup _ = _; rw [g.sc]; exact g2
  have gn : cenv.kindOf nm = some .globalImplicit := by show cenv.scope.names.lookup _ = _; rw [g.sc]; exact g1
  refine wpAny_Call_Name_kw (fm_glob F gn A.m ?_ hd2)
  refine PySem.W.callWith_K (h₀ := X.base) F.mod.kin A.k ?_ rfl rfl
  show wpAny _ _ (spliced [(false, eval (.Name x p2) cenv), (false, eval (.UnaryOp .USub (.Name cn p3) p4) cenv), (false, eval (.Name cn cp) cenv)]) _ _ _
  refine Calls.spliced_cons (fm_loc F (g.here hx) ?_ hd)
  refine Calls.spliced_cons (UnaryOp_ (fm_glob F gc hcn (neg_int ?_) hd3))
  have k0 := keeps_toks t (t.toks + 1)
  have F1 := F.keeps k0
  refine Calls.spliced_cons (fm_glob F1 gc hcn ?_ hd3)
  refine Calls.spliced_nil ⟨F.mod.kin.keeps F1.bk, ?_⟩
  refine run_whole (T := T) A.F Sc A.b hst k1 k2 k3 n12 n13 n23 k4 k5 F.mod F1.bk (by have := g.dp; omega) (typeIs_keeps k0 (g.ty T ty)) ty.nb ?_ m1 m2 (fun t' k => ⟨rfl, keeps_trans k0 k⟩) e1 e2 e3
  rcases hb with q | ⟨i, rfl, e, q⟩
  · exact .inl q
  · obtain ⟨ti, rfl⟩ := (show ∃ ti, u = Value.int i ti from g.val)
    exact .inr ⟨i, ti, rfl, e, q⟩
end
end Z

set_option Elab.async false
set_option linter.all false
set_option maxRecDepth 100000
set_option maxHeartbeats 1000000
namespace Z
open PySem L2 PySem.Spec PyProof.Rows
variable [Tabs]
section
variable {X : Cx} {w : Wd} {pos : Pos} {a b c : Expr} {fa fb fc : EF}
def gGcd : List D → Store → R D
  | [.int i, .int j], S => .ok (.int ((Nat.gcd i.natAbs j.natAbs : Nat) : Int)) S
  | _, _ => .bad
theorem se_gcd {x : Str} {p : Pos} {e : Expr} {es : List Expr} {f : AF} (hm : X.mg x = some (.builtin "math.gcd")) (ha : PA X (e :: es) (tA w f)) (gl : Gl X x := by rfl) (hd : (x == ("__debug__" : Str)) = false := by decide)
    (h3 : starEach (e :: es) X.env = (false, eval e X.env) :: starEach es X.env := by rfl) (h4 : (backTo pos (starEach es X.env)).any (·.1) = false := by rfl) :
    PE X (.Call (.Name x p) (e :: es) [] pos) (tE w (eCall gGcd f)) := by
  refine PE_imp (pe_callBfun cr_gcd gl hm ha hd h3 h4) fun σ H Q q => call_use (w := w) (g := gGcd) ?_ q
  intro ι S H σ xs vs Q L r q
  unfold gGcd at q
  split at q
  · rename_i i j
    obtain ⟨v, u, rfl, rv, ru⟩ := rel2 r
    rw [rel_int] at rv ru; subst rv; subst ru
    exact ⟨i, j, rfl, q _ ι H (.refl _ _) L (rel_int.mpr rfl)⟩
  · exact q.elim
def gAny : List D → Store → R D
  | [.tup ds], S => (match intsD ds with
    | some ns => .ok (.bl (ns.any fun n => n != 0)) S
    | none => .bad)
  | _, _ => .bad
theorem any_of_ints (ns : List Int) : (List.range ns.length).any (fun i => ns.getD i 0 != 0) = ns.any fun n => n != 0 := by
  rw [Bool.eq_iff_iff, List.any_eq_true, List.any_eq_true]
  constructor
  · rintro ⟨i, hi, h⟩
    have hi' := List.mem_range.mp hi
    refine ⟨ns[i], List.getElem_mem hi', ?_⟩
    simpa [List.getD_eq_getElem?_getD, hi'] using h
  · rintro ⟨n, hn, h⟩
    obtain ⟨i, hi, e⟩ := List.getElem_of_mem hn
    refine ⟨i, List.mem_range.mpr hi, ?_⟩
    simpa [List.getD_eq_getElem?_getD, hi, e] using h
def rAnyT (K : PySem.W.Frag) : List V → Hp → VK → Prop := fun vs H Q => ∃ (a : Addr) (ns : List Int), vs = [.ref a] ∧ SqT K H a (ns.map V.int) ∧ Q (.bl (ns.any fun n => n != 0)) H
theorem cr_anyT (hc : X.calm = true) : CallR X (.builtin "any") (rAnyT X.K) := by
  intro pins s σ H vs us Q I r h
  obtain ⟨a, ns, rfl, hs, q⟩ := h
  obtain ⟨its, rv, hl, _⟩ := I.tuple hs
  have hT : s.heap.IsTuple a its.toArray := hl
  rw [Vals.ref1 r]
  have hlt : a < s.heap.objs.size := by
    obtain ⟨_, e, _⟩ := _root_.id hT
    exact Heap.lt_size e
  refine call_any_walk (wpAny_pyIter_tuple hT ?_)
  refine ⟨_, _, _, _, _, _, fun i => ns.getD i 0 != 0, rfl, Walks.tuple (A := X.A.in1) (I.ok.hd hc) s.heap.objs.size a (Nat.ne_of_lt hlt) its.toArray, ⟨⟨_, Heap.get?_push_size _ rfl, rfl, rfl⟩, hT.push _⟩, fun i v t Q' E' hv hq => ?_, fun h' tk hk => ?_⟩
  · have hv' : its[i]? = some v := by simpa using hv
    have hn : i < ns.length := by
      have := (List.getElem?_eq_some_iff.mp hv').1
      have e := rv.length
      rw [List.length_map] at e; omega
    obtain ⟨u, hu, ru⟩ := rv.get (i := i) (x := .int ns[i]) (by simp [hn])
    rw [hv'] at hu; cases hu
    obtain ⟨tk, rfl⟩ := ru
    refine truthy_int ?_
    simpa [List.getD_eq_getElem?_getD, hn] using hq
  · refine ⟨.bl _, H, I.kept fun b o eo => hk b o (fun hm => ?_) (Heap.get?_push_of_some _ eo), ?_, q⟩
    · have l := Heap.lt_size eo
      rw [List.mem_singleton.mp hm] at l; exact Nat.lt_irrefl _ l
    · show Value.bool _ = Value.bool _
      rw [← any_of_ints, List.size_toArray, ← rv.length, List.length_map]
theorem se_anyT {e : Expr} {es : List Expr} {f : AF} {p : Pos} (hc : X.calm = true) (hm : X.mg "any" = none) (ha : PA X (e :: es) (tA w f)) (gl : Gl X "any" := by rfl) (hK : X.K = w.K := by rfl) (h3 : starEach (e :: es) X.env = (false, eval e X.env) :: starEach es X.env := by rfl) (h4 : (backTo pos (starEach es X.env)).any (·.1) = false := by rfl) :
    PE X (.Call (.Name "any" p) (e :: es) [] pos) (tE w (eCall gAny f)) :=
  se_b (cr_anyT hc) (fun ι S H σ xs vs Q L r q => by
    unfold gAny at q
    split at q
    · rename_i ds
      obtain ⟨v, rfl, rv⟩ := rel1 r
      cases e : intsD ds with
      | none => rw [e] at q; exact q.elim
      | some ns =>
        rw [e] at q
        obtain ⟨a, us, rfl, h, l⟩ := rel_tup.mp rv
        have e2 := intsD_map e
        subst e2
        have := l.ints
        subst this
        exact ⟨a, ns, rfl, SqT.of h, q _ ι H (.refl _ _) L (rel_bl.mpr rfl)⟩
    · exact q.elim) gl hm boot_any' ha (by decide) (by decide) h3 h4
def gIn : D → D → Store → R D
  | .int i, .tup ds, S => (match intsD ds with
    | some ns => .ok (.bl (ns.any fun n => n == i)) S
    | none => .bad)
  | _, _, _ => .bad
theorem rule_in (K : PySem.W.Frag) (hK : K = w.K) : RuleOp w (rIn K false) gIn := by
  subst hK
  intro ι S H σ x y v u Q L rx ry p
  cases x <;> cases y <;> try exact p.elim
  rename_i i ds
  rw [rel_int] at rx; subst rx
  simp only [gIn] at p
  cases e : intsD ds with
  | none => rw [e] at p; exact p.elim
  | some ns =>
    rw [e] at p
    obtain ⟨a, us, rfl, h, l⟩ := rel_tup.mp ry
    have e2 := intsD_map e
    subst e2
    have := l.ints
    subst this
    refine ⟨a, ns.map V.int, rfl, .inr (SqT.of h), rfl, by simp [flatV], ?_⟩
    have e3 : inV (.int i) (ns.map V.int) = ns.any fun n => n == i := by simp [inV, eqV, List.any_map, Function.comp_def]
    rw [if_neg Bool.false_ne_true, e3]
    exact p _ ι H (.refl _ _) L (rel_bl.mpr rfl)
theorem cr_in (hK : X.K = w.K) : CmpRule X w .In gIn := ⟨⟨_, op_in_seq, rule_in X.K hK⟩, fun x y S d S' e => by
  cases x <;> cases y <;> try cases e
  rename_i i ds
  simp only [gIn] at e
  cases q : intsD ds with
  | none => rw [q] at e; cases e
  | some ns => rw [q] at e; cases e; exact ⟨_, rfl⟩⟩
def aStar (f : EF) (g : AF) : AF := fun ρ S => (f ρ S).bind fun x S1 => match asQ S1 x with
  | some xs => (g ρ S1).bind fun ys S2 => .ok (xs ++ ys) S2
  | none => .bad
theorem sa_star {e : Expr} {es : List Expr} {f : EF} {g : AF} {p : Pos} (ha : PE X e (tE w f)) (hr : PA X es (tA w g)) (hK : X.K = w.K := by rfl) (hs : starEach (.Starred e p :: es) X.env = (true, eval e X.env) :: starEach es X.env := by rfl) : PA X (.Starred e p :: es) (tA w (aStar f g)) := by
  refine PA_imp (StX.pa_star ha hr hs) fun σ H Q ⟨ι, ρ, S, L, Sl, p⟩ => ?_
  refine ⟨ι, ρ, S, L, Sl, PostE.thenA p fun d S1 p1 v ι1 H1 x1 L1 r1 => ?_⟩
  cases e : asQ S1 d with
  | none => rw [e] at p1; exact p1.elim
  | some xs =>
    rw [e] at p1
    obtain ⟨q, vs, rfl, hq, l⟩ := L1.seq e r1
    rw [← hK] at hq
    refine ⟨q, vs, rfl, hq.symm, ι1, ρ, S1, L1, Sl.ext x1, PostA.thenA (p1.ext x1) fun ds S2 p2 us ι2 H2 x2 L2 r2 => ?_⟩
    exact p2 _ ι2 H2 x2 L2 ((l.ext x2).append r2)
def zipD (xs ys : List D) : List D := (xs.zip ys).map fun p => .tup [p.1, p.2]
def iZipT (f : AF) : IF := fun ρ S => (f ρ S).bind fun ds S1 => match ds with
  | [.tup xs, .tup ys] => .ok (zipD xs ys, noChk) S1
  | _ => .bad
theorem si_zipT {tpos p cpos : Pos} {elts : List Expr} {kk : Nat} {f : AF} (hm : X.mg "zip" = none) (ha : PA X [a, b] (tA w f)) (gl : Gl X "zip" := by rfl) (hK : X.K = w.K := by rfl)
    (h3 : starEach [a, b] X.env = (false, eval a X.env) :: starEach [b] X.env := by rfl) (h4 : (backTo cpos (starEach [b] X.env)).any (·.1) = false := by rfl) :
    PI X (.Tuple elts kk tpos) (.Call (.Name "zip" p) [a, b] [] cpos) (tI w (iZipT f)) := by
  refine PI_imp (RZ.pi_zipA gl hm ha h3 h4) fun σ H Q ⟨ι, ρ, S, L, Sl, q⟩ => ?_
  refine ⟨ι, ρ, S, L, Sl, PostA.thenI q fun ds S1 q1 vs ι1 H1 x1 L1 r1 => ?_⟩
  split at q1
  · rename_i xs ys
    obtain ⟨v, u, rfl, rv, ru⟩ := rel2 r1
    obtain ⟨p, us, rfl, hp, l1⟩ := rel_tup.mp rv
    obtain ⟨q, ws, rfl, hq, l2⟩ := rel_tup.mp ru
    refine ⟨p, q, us, ws, rfl, .inr ⟨SqT.of hp, SqT.of hq, ?_⟩⟩
    rw [hK]
    have k1 : ∀ {ι H}, Ext ι1 H1 ι H → SqT w.K H p us := fun x => SqT.of (x.keep p _ hp (.inl rfl))
    have k2 : ∀ {ι H}, Ext ι1 H1 ι H → SqT w.K H q ws := fun x => SqT.of (x.keep q _ hq (.inl rfl))
    refine q1 _ ι1 H1 x1 L1 ⟨fun ι S H x L g => ⟨us, ws, k1 x, k2 x, ?_⟩, fun ι S H i x L g hi => ?_, fun ι S H i d' v H' x L g hi hy => ?_⟩
    · simp only [zipD, List.length_map, List.length_zip, l1.length, l2.length]; omega
    · simp only [zipD, List.length_map, List.length_zip] at hi
      have h1 : i < us.length := by rw [l1.length]; omega
      have h2 : i < ws.length := by rw [l2.length]; omega
      exact ⟨us, ws, us[i], ws[i], k1 x, k2 x, by simp, by simp⟩
    · obtain ⟨T, y, z, rfl, hT, rfl, hy, hz⟩ := hy
      simp only [zipD, List.getElem?_map] at hi
      cases e : (xs.zip ys)[i]? with
      | none => rw [e] at hi; cases hi
      | some pr =>
        rw [e] at hi; cases hi
        obtain ⟨e1, e2⟩ := List.getElem?_zip_eq_some.mp e
        obtain ⟨d1, g1, g2⟩ := l1.getV (hy us (k1 x))
        obtain ⟨d2, g3, g4⟩ := l2.getV (hz ws (k2 x))
        rw [e1] at g1; cases g1
        rw [e2] at g3; cases g3
        have xn : Ext ι H ι (upd H T (.tup [y, z])) := .new hT
        exact ⟨fun q o w => by rw [upd_ne (ne_of_none w hT)]; exact w, rel_tup.mpr ⟨T, _, rfl, upd_same, relL_cons.mpr ⟨_, _, rfl, g2.ext (x.trans xn), relL_cons.mpr ⟨_, _, rfl, g4.ext (x.trans xn), relL_nil.mpr rfl⟩⟩⟩, xn, L.fixed hT⟩
  · exact q1.elim
def sBad : SF := fun _ _ => .bad
theorem s_bad {st : Stmt} : PS X st (tS w sBad) := ⟨fun pins s σ H E I h => by obtain ⟨_, _, _, _, _, q⟩ := h; exact q.elim⟩
theorem dp1 {k : Nat} {A : Around} (hr : Room k A) : A.depth + 1 < recursionLimit := by have := hr.dp; omega
theorem genS_of {env : PySem.Env} {scope : Scope} {x : Str} (h1 : scope.kind = .function) (h2 : scope.isCoroutine = false) (h3 : ∀ y ∈ scope.names, y.2 ≠ .cell) (h4 : scope.names.lookup (".0" : Str) = some NameKind.local) (h5 : scope.names.lookup x = some .local) (h6 : ∀ y ∈ scope.names, y.2 ≠ .free) : GxR.GenS env scope x :=
  ⟨h1, h2, h3, h4, h5, fun y hy e => (h6 y hy e).elim⟩
end
/-- a def whose code object is known -/
theorem fn_okGC {P : Program} {wd : World} {K : PySem.W.Frag} {mg : Str → Option Value} {base : Heap} {CA : ClsAt} {x qual : Str} {st : Stmt} {f c : Addr} {fd : FuncData} {N ps : List Str} {k : Nat} {g : SF} (F : Fun K x qual st f fd) (hfc : fd.code = .ref c) (Sc : FnScope N ps (defScope st)) (hps : ps.length ≤ N.length)
    (hbody : ∀ (A : Around) (outer : List PySem.Env) (s : Shared) (H : Hp) (E : XK), Room k (A.deeper (envOfC qual (defScope st) s.heap.objs.size f (.ref c))) → A.guards = some [] →
      PSs (cxOf (L2.CX P wd) P wd K mg base N qual (defScope st) f (.ref c) A outer s H E) (defBody st) (tS ⟨K, CA, fun cls d _ H => E cls d H⟩ g)) :
    FnG P wd K mg base (L2.CX P wd) (k + 1) f fd ps (spF K CA ps.length (runDef N.length g)) := by
  obtain ⟨oc, od, kV, doc, pm, an, cdv, ct, osl, rfl, lk, hcd⟩ := F.ex
  have e : cdv = .ref c := hfc
  subst e
  refine fnG_of lk hcd Sc (fun vs H Q E h => h.1) fun A outer s H vs Q E hr hgd h => ⟨_, hbody A outer s H E hr hgd, ?_⟩
  obtain ⟨hn, ι, ds, S, L, r, p⟩ := h
  refine ⟨ι, _, S, L, start_slots r (by omega), ?_⟩
  unfold runDef at p
  cases z : g (ds.map some ++ List.replicate (N.length - ds.length) none) S with
  | nx ρ' S' => simp only [z] at p; exact fun σ' ι' H' x' L' Sl' => p .non ι' H' x' L' (rel_non.mpr rfl)
  | rt d S' => simp only [z] at p; exact p
  | exc c fs ρ' S' => simp only [z] at p; exact fun cls dd σ' ι' H' x' L' _ e => p cls dd ι' H' x' L' e
  | bk ρ' S' => simp only [z] at p
  | ct ρ' S' => simp only [z] at p
  | bad => simp only [z] at p
theorem code_of {K : PySem.W.Frag} {h : Heap} {mg : Str → Option Value} {x : Str} {f c P : Addr} {oc : Value} {od : Option Addr} {sl : Array (Option Value)} {fd : FuncData} (X : K.In h) (m : mg x = some (.ref f)) (l : K.lookup f = some ⟨oc, od, .func fd, sl⟩) (T : TabRec mg h x c P) : fd.code = .ref c := by
  obtain ⟨a, o, fd', h1, h2, h3, h4⟩ := T.func
  rw [m] at h1; cases h1
  rw [X f _ l] at h2; cases h2
  cases h3
  exact h4
theorem lawSp_start [Tabs] {H : Hp} {a : Addr} {o : Obj} {ns : List Int} (h : H a = some (.frz o (.lst (ns.map V.int)))) (hl : ns.length ≤ 63) (ht : ∀ p ∈ Tabs.at_, H p = some (.tbl #[])) : lawSp [V.ref a] H (fun v _ => v = V.bl true) fun _ _ _ => False :=
  ⟨a, o, ns, rfl, h, ht, hl, fun _ => rfl⟩
end Z

set_option Elab.async false
set_option linter.all false
set_option maxRecDepth 100000
set_option maxHeartbeats 1000000
namespace Z
local instance : Tabs := ⟨[]⟩
open PySem L2
def body__law_mixed : SF := (sSeq (sSet 2 (eOp gAdd (eOp gAdd (eOp gMod (eCall gInt1 (aCons (eOp gMul (eOp gMul (eVar 0) (eOp gAdd (eC (.int 1)) (eOp gMul (eC (.int 2)) (eVar 1)))) (eC (.int 48271))) aNil)) (eC (.int 2147483647))) (eOp gMul (eOp gMul (eC (.int 7919)) (eVar 1)) (eVar 1))) (eOp gMul (eC (.int 104729)) (eVar 1))))
  (sRet (eOp gDiv (eOp gMod (eCall gInt1 (aCons (eOp gMul (eVar 2) (eC (.int 69621))) aNil)) (eC (.int 2147483629))) (eC (.int 7)))))
@[irreducible] def fn__law_mixed : Fn := runDef 3 body__law_mixed
theorem fn__law_mixed_eq : fn__law_mixed = runDef 3 body__law_mixed := by unfold fn__law_mixed; rfl
def body__law_folded : SF := (sSeq (sSet 1 (eLC (iR1 (aCons (eC (.int 64)) aNil)) [2] (gN 2) tAll (eOp gAdd (eC (.int 17)) (eVar 2))))
  (sSeq (sFor (iEnumL (aCons (eVar 0) aNil)) (gTupD 2 (gsCons (gN 2) (gsCons (gN 3) gsNil)))
  (sPut (eOp gMod (eCall gInt1 (aCons (eOp gAdd (eOp gMul (eOp gIx (eVar 1) (eOp gMod (eCall gInt1 (aCons (eVar 2) aNil)) (eC (.int 64)))) (eC (.int 48271))) (eVar 3)) aNil)) (eC (.int 2147483647))) (eVar 1) (eOp gMod (eCall gInt1 (aCons (eVar 2) aNil)) (eC (.int 64)))))
  (sSeq (sFor (iR2 (aCons (eC (.int 1)) (aCons (eC (.int 64)) aNil))) (gN 2)
  (sPut (eOp gMod (eCall gInt1 (aCons (eOp gAdd (eOp gIx (eVar 1) (eVar 2)) (eOp gMul (eOp gIx (eVar 1) (eOp gSub (eVar 2) (eC (.int 1)))) (eC (.int 16807)))) aNil)) (eC (.int 2147483647))) (eVar 1) (eVar 2)))
  (sRet (eVar 1)))))
@[irreducible] def fn__law_folded : Fn := runDef 4 body__law_folded
theorem fn__law_folded_eq : fn__law_folded = runDef 4 body__law_folded := by unfold fn__law_folded; rfl
def body__law_draw : SF := (sSeq (sSet 2 (eDGet (eVar 0) (eC (.str "spot"))))
  (sSeq (sDPutZ (eOp gAdd (eVar 2) (eC (.int 1))) (eVar 0) (eC (.str "spot")))
  (sSeq (sIf (tOf (eOp (gEqD true) (eDGet (eVar 0) (eC (.str "great"))) (eLst aNil)))
  (sSeq (sSet 3 (eDGet (eVar 0) (eC (.str "great"))))
  (sSeq (sSet 4 (eOp gMod (eCall gInt1 (aCons (eVar 2) aNil)) (eCall gLen (aCons (eVar 3) aNil))))
  (sSeq (sSet 5 (eOp gIx (eVar 3) (eVar 4)))
  (sIf (tOf (eOp gGt (eVar 5) (eC (.int 0))))
  (sSeq (sPut (eOp gDiv (eVar 5) (eVar 1)) (eVar 3) (eVar 4))
  (sRet (eOp gMod (eCall gInt1 (aCons (eVar 5) aNil)) (eVar 1))))
  sNil))))
  sNil)
  (sSeq (sSet 3 (eDGet (eVar 0) (eC (.str "cells"))))
  (sRet (eOp gMod (eCall gInt1 (aCons (eFn 2 fn__law_mixed (aCons (eFn 2 fn__law_mixed (aCons (eOp gAdd (eOp gIx (eVar 3) (eOp gMod (eCall gInt1 (aCons (eVar 2) aNil)) (eC (.int 64)))) (eOp gMul (eC (.int 31)) (eOp gDiv (eVar 2) (eC (.int 64))))) (aCons (eVar 2) aNil))) (aCons (eOp gAdd (eVar 2) (eC (.int 7))) aNil))) aNil)) (eVar 1)))))))
@[irreducible] def fn__law_draw : Fn := runDef 6 body__law_draw
theorem fn__law_draw_eq : fn__law_draw = runDef 6 body__law_draw := by unfold fn__law_draw; rfl
def body__law_begun : SF := (sSeq (sSet 1 (eDisp [((eC (.str "cells")), (eFn 1 fn__law_folded (aCons (eVar 0) aNil))), ((eC (.str "great")), (eLst aNil)), ((eC (.str "spot")), (eC (.int 0)))]))
  (sSeq (sDPutZ (eLC (iLst (eVar 0)) [2] (gN 2) tAll (eIf (tOf (eOp gGe (eVar 2) (eOp gPow (eC (.int 10)) (eC (.int 18))))) (eVar 2) (eC (.int 0)))) (eVar 1) (eC (.str "great")))
  (sRet (eVar 1))))
@[irreducible] def fn__law_begun : Fn := runDef 3 body__law_begun
theorem fn__law_begun_eq : fn__law_begun = runDef 3 body__law_begun := by unfold fn__law_begun; rfl
def body__law_like : SF := (sRet (eOp (gEqD false) (eCall gRepr (aCons (eVar 0) aNil)) (eCall gRepr (aCons (eVar 1) aNil))))
@[irreducible] def fn__law_like : Fn := runDef 2 body__law_like
theorem fn__law_like_eq : fn__law_like = runDef 2 body__law_like := by unfold fn__law_like; rfl
def body__law_of : SF := (sRet (eOp gIx (eVar 1) (eFn 2 fn__law_draw (aCons (eVar 0) (aCons (eCall gLen (aCons (eVar 1) aNil)) aNil)))))
@[irreducible] def fn__law_of : Fn := runDef 2 body__law_of
theorem fn__law_of_eq : fn__law_of = runDef 2 body__law_of := by unfold fn__law_of; rfl
def body__law_four_place : SF := (sRet (eCall gTupOf (aCons (eLC (iR1 (aCons (eIf (tOf (eOp (gEqD false) (eVar 1) (eC (.int 3)))) (eC (.int 2)) (eC (.int 3))) aNil)) [3] (gN 3) tAll (eOp gSub (eFn 2 fn__law_draw (aCons (eVar 0) (aCons (eOp gAdd (eOp gMul (eC (.int 2)) (eVar 2)) (eC (.int 1))) aNil))) (eVar 2))) aNil)))
@[irreducible] def fn__law_four_place : Fn := runDef 4 body__law_four_place
theorem fn__law_four_place_eq : fn__law_four_place = runDef 4 body__law_four_place := by unfold fn__law_four_place; rfl
def body__law_four_gcd : SF := (sSeq (sFor (iR1 (aCons (eC (.int 2000)) aNil)) (gN 2)
  (sSeq (sIf (tOf (eOp (gEqD false) (eVar 1) (eC (.int 0))))
  sBreak
  sNil)
  (sPar 0 1 (aCons (eVar 1) (aCons (eOp gMod (eCall gInt1 (aCons (eVar 0) aNil)) (eVar 1)) aNil)))))
  (sRet (eVar 0)))
@[irreducible] def fn__law_four_gcd : Fn := runDef 3 body__law_four_gcd
theorem fn__law_four_gcd_eq : fn__law_four_gcd = runDef 3 body__law_four_gcd := by unfold fn__law_four_gcd; rfl
def body__law_four_short : SF := (sSeq (sSet 1 (eC (.int 0)))
  (sSeq (sFor (iSeq (eVar 0)) (gN 2)
  (sSet 1 (eFn 2 fn__law_four_gcd (aCons (eCall gAbs (aCons (eVar 2) aNil)) (aCons (eVar 1) aNil)))))
  (sRet (eIf (tOf (eOp gGt (eVar 1) (eC (.int 1)))) (eLC (iSeq (eVar 0)) [2] (gN 2) tAll (eOp gDiv (eVar 2) (eVar 1))) (eCall gListOf (aCons (eVar 0) aNil))))))
@[irreducible] def fn__law_four_short : Fn := runDef 3 body__law_four_short
theorem fn__law_four_short_eq : fn__law_four_short = runDef 3 body__law_four_short := by unfold fn__law_four_short; rfl
def body__law_three_number : SF := (sRet (eOp gSub (eFn 2 fn__law_draw (aCons (eVar 0) (aCons (eOp gAdd (eOp gMul (eC (.int 2)) (eVar 1)) (eC (.int 1))) aNil))) (eVar 1)))
@[irreducible] def fn__law_three_number : Fn := runDef 2 body__law_three_number
theorem fn__law_three_number_eq : fn__law_three_number = runDef 2 body__law_three_number := by unfold fn__law_three_number; rfl
def body__law_three_dot : SF := (sRet (eCall gSum (aCons (eLC (iLst (eLZip (aCons (eVar 0) (aCons (eVar 1) aNil)))) [2, 3] (gTupD 2 (gsCons (gN 2) (gsCons (gN 3) gsNil))) tAll (eOp gMul (eVar 2) (eVar 3))) aNil)))
@[irreducible] def fn__law_three_dot : Fn := runDef 4 body__law_three_dot
theorem fn__law_three_dot_eq : fn__law_three_dot = runDef 4 body__law_three_dot := by unfold fn__law_three_dot; rfl
def body__law_three_cross : SF := (sSeq (sSet 2 (eLst aNil))
  (sSeq (sFor (iR1 (aCons (eC (.int 3)) aNil)) (gN 3)
  (sExpr (eApp (eVar 2) (aCons (eOp gSub (eOp gMul (eOp gIx (eVar 0) (eOp gMod (eOp gAdd (eVar 3) (eC (.int 1))) (eC (.int 3)))) (eOp gIx (eVar 1) (eOp gMod (eOp gAdd (eVar 3) (eC (.int 2))) (eC (.int 3))))) (eOp gMul (eOp gIx (eVar 0) (eOp gMod (eOp gAdd (eVar 3) (eC (.int 2))) (eC (.int 3)))) (eOp gIx (eVar 1) (eOp gMod (eOp gAdd (eVar 3) (eC (.int 1))) (eC (.int 3)))))) aNil))))
  (sRet (eCall gTupOf (aCons (eVar 2) aNil)))))
@[irreducible] def fn__law_three_cross : Fn := runDef 4 body__law_three_cross
theorem fn__law_three_cross_eq : fn__law_three_cross = runDef 4 body__law_three_cross := by unfold fn__law_three_cross; rfl
def body__law_three_plus : SF := (sRet (eCall gTupOf (aCons (eLC (iLst (eLZip (aCons (eVar 0) (aCons (eVar 2) aNil)))) [3, 4] (gTupD 2 (gsCons (gN 3) (gsCons (gN 4) gsNil))) tAll (eOp gAdd (eVar 3) (eOp gMul (eVar 1) (eVar 4)))) aNil)))
@[irreducible] def fn__law_three_plus : Fn := runDef 5 body__law_three_plus
theorem fn__law_three_plus_eq : fn__law_three_plus = runDef 5 body__law_three_plus := by unfold fn__law_three_plus; rfl
def body__law_three_is_row : SF := (sSeq (sIf (fOr (fNot (tOf (eIsi "tuple" (eVar 0)))) (tOf (eOp (gEqD true) (eCall gLen (aCons (eVar 0) aNil)) (eVar 1))))
  (sRet (eC (.bl false)))
  sNil)
  (sRet (eOp (gEqD false) (eLC (iSeq (eVar 0)) [2] (gN 2) (fOr (tOf (eIsi "bool" (eVar 2))) (fNot (tOf (eIsi "int" (eVar 2))))) (eC (.int 1))) (eLst aNil))))
@[irreducible] def fn__law_three_is_row : Fn := runDef 3 body__law_three_is_row
theorem fn__law_three_is_row_eq : fn__law_three_is_row = runDef 3 body__law_three_is_row := by unfold fn__law_three_is_row; rfl
def body__law_three_bad : SF := (sSeq (sSet 2 (eFn 2 fn__law_draw (aCons (eVar 0) (aCons (eC (.int 4)) aNil))))
  (sSeq (sIf (fOr (tOf (eOp (gEqD false) (eVar 2) (eC (.int 0)))) (tOf (eOp (gEqD false) (eCall gLen (aCons (eVar 1) aNil)) (eC (.int 0)))))
  (sRet (eFn 2 fn__law_of (aCons (eVar 0) (aCons (eLst (aCons (eC .non) (aCons (eCall gListOf (aCons (eVar 1) aNil)) (aCons (eC (.int 7)) (aCons (eC (.str "row")) (aCons eNewD aNil)))))) aNil))))
  sNil)
  (sSeq (sIf (tOf (eOp (gEqD false) (eVar 2) (eC (.int 1))))
  (sRet (eFn 2 fn__law_of (aCons (eVar 0) (aCons (eLst (aCons (eOp gAdd (eVar 1) (eTup (aCons (eC (.int 0)) aNil))) (aCons (eSl (eVar 1) (pSome (eC (.int 1))) pNone) (aCons (eOp gAdd (eVar 1) (eVar 1)) aNil)))) aNil))))
  sNil)
  (sSeq (sSet 3 (eFn 2 fn__law_draw (aCons (eVar 0) (aCons (eCall gLen (aCons (eVar 1) aNil)) aNil))))
  (sRet (eOp gAdd (eOp gAdd (eSl (eVar 1) pNone (pSome (eVar 3))) (eTup (aCons (eFn 2 fn__law_of (aCons (eVar 0) (aCons (eLst (aCons (eC .non) (aCons (eC (.bl true)) (aCons (eC (.bl false)) (aCons (eC (.str "1")) (aCons (eTup (aCons (eC (.int 1)) aNil)) (aCons (eLst (aCons (eC (.int 1)) aNil)) aNil))))))) aNil))) aNil))) (eSl (eVar 1) (pSome (eOp gAdd (eVar 3) (eC (.int 1)))) pNone)))))))
@[irreducible] def fn__law_three_bad : Fn := runDef 4 body__law_three_bad
theorem fn__law_three_bad_eq : fn__law_three_bad = runDef 4 body__law_three_bad := by unfold fn__law_three_bad; rfl
def body__law_motion : SF := (sSeq (sAsg (gTupD 2 (gsCons (gN 1) (gsCons (gN 2) gsNil))) (eTup (aCons (eFn 2 fn__law_of (aCons (eVar 0) (aCons (eLst (aCons (eC (.int 1)) (aCons (eC (.int 3)) (aCons (eC (.int 1000)) (aCons (eOp gPow (eC (.int 10)) (eC (.int 9))) aNil))))) aNil))) (aCons (eFn 2 fn__law_draw (aCons (eVar 0) (aCons (eC (.int 4)) aNil))) aNil))))
  (sSeq (sSet 3 (eCall gTupOf (aCons (eLC (iR1 (aCons (eC (.int 3)) aNil)) [7] (gN 7) tAll (eFn 2 fn__law_three_number (aCons (eVar 0) (aCons (eVar 1) aNil)))) aNil)))
  (sSeq (sIf (tOf (eOp (gEqD false) (eVar 2) (eC (.int 0))))
  (sRet (eOp gAdd (eVar 3) (eTup (aCons (eC (.int 0)) (aCons (eC (.int 0)) (aCons (eC (.int 0)) aNil))))))
  sNil)
  (sSeq (sIf (tOf (eOp (gEqD false) (eVar 2) (eC (.int 1))))
  (sSeq (sPar 4 5 (aCons (eFn 3 fn__law_four_place (aCons (eVar 0) (aCons (eC (.int 6)) (aCons (eVar 1) aNil)))) (aCons (eFn 2 fn__law_three_number (aCons (eVar 0) (aCons (eC (.int 3)) aNil))) aNil)))
  (sRet (eOp gAdd (eFn 3 fn__law_three_plus (aCons (eFn 2 fn__law_three_cross (aCons (eVar 4) (aCons (eVar 3) aNil))) (aCons (eVar 5) (aCons (eVar 3) aNil)))) (eVar 3))))
  sNil)
  (sSeq (sIf (tOf (eOp (gEqD false) (eVar 2) (eC (.int 2))))
  (sSeq (sSet 6 (eOp gAdd (eC (.int 2)) (eFn 2 fn__law_draw (aCons (eVar 0) (aCons (eC (.int 5)) aNil)))))
  (sRet (eOp gAdd (eCall gTupOf (aCons (eLC (iR1 (aCons (eC (.int 3)) aNil)) [7] (gN 7) tAll (eFn 2 fn__law_three_number (aCons (eVar 0) (aCons (eVar 1) aNil)))) aNil)) (eCall gTupOf (aCons (eLC (iSeq (eVar 3)) [8] (gN 8) tAll (eOp gMul (eVar 6) (eVar 8))) aNil)))))
  sNil)
  (sRet (eOp gAdd (eCall gTupOf (aCons (eLC (iR1 (aCons (eC (.int 3)) aNil)) [7] (gN 7) tAll (eFn 2 fn__law_three_number (aCons (eVar 0) (aCons (eVar 1) aNil)))) aNil)) (eVar 3))))))))
@[irreducible] def fn__law_motion : Fn := runDef 9 body__law_motion
theorem fn__law_motion_eq : fn__law_motion = runDef 9 body__law_motion := by unfold fn__law_motion; rfl
def body__law_scaled : SF := (sRet (eFn 3 fn__law_three_plus (aCons (eLC (iSeq (eSl (eVar 0) pNone (pSome (eC (.int 3))))) [3] (gN 3) tAll (eOp gMul (eVar 1) (eVar 3))) (aCons (eC (.int 1)) (aCons (eFn 2 fn__law_three_cross (aCons (eSl (eVar 0) (pSome (eC (.int 3))) pNone) (aCons (eVar 2) aNil))) aNil)))))
@[irreducible] def fn__law_scaled : Fn := runDef 4 body__law_scaled
theorem fn__law_scaled_eq : fn__law_scaled = runDef 4 body__law_scaled := by unfold fn__law_scaled; rfl
end Z

set_option Elab.async false
set_option linter.all false
set_option maxRecDepth 100000
set_option maxHeartbeats 1000000
namespace Z
local instance : Tabs := ⟨[]⟩
open PySem L2
def Bd (k : Nat) (i : Int) : Prop := i.natAbs < 2 ^ k
theorem Bd.mono {a b : Nat} {i : Int} (h : Bd a i) (hab : a ≤ b) : Bd b i := Nat.lt_of_lt_of_le h (Nat.pow_le_pow_right (by decide) hab)
theorem Bd.mul {a b : Nat} {i j : Int} (h : Bd a i) (g : Bd b j) : Bd (a + b) (i * j) := by
  unfold Bd at *
  rw [Int.natAbs_mul, Nat.pow_add]
  exact Nat.mul_lt_mul_of_lt_of_le h (Nat.le_of_lt g) (Nat.pow_pos (by decide))
theorem Bd.neg {a : Nat} {i : Int} (h : Bd a i) : Bd a (-i) := by unfold Bd at *; rw [Int.natAbs_neg]; exact h
theorem Bd.add {a : Nat} {i j : Int} (h : Bd a i) (g : Bd a j) : Bd (a + 1) (i + j) := by
  unfold Bd at *
  rw [Nat.pow_succ]
  have := Int.natAbs_add_le i j
  omega
theorem Bd.sub {a : Nat} {i j : Int} (h : Bd a i) (g : Bd a j) : Bd (a + 1) (i - j) := by
  rw [Int.sub_eq_add_neg]; exact h.add g.neg
theorem Bd.of {a : Nat} {i : Int} (h : -(2 ^ a : Nat) < i) (g : i < (2 ^ a : Nat)) : Bd a i := by unfold Bd; omega
theorem Bd.log {a : Nat} {i : Int} (h : Bd a i) (ha : 0 < a) : i.natAbs.log2 < a := by
  unfold Bd at h
  by_cases z : i.natAbs = 0
  · rw [z]; simpa using ha
  · exact (Nat.log2_lt z).mpr h
theorem gMul_bd {a b : Nat} {i j : Int} (h : Bd a i) (g : Bd b j) (hab : a + b ≤ 1000000) (ha : 0 < a) (hb : 0 < b) (S : Store) : gMul (.int i) (.int j) S = .ok (.int (i * j)) S := by
  have h1 := h.log ha
  have h2 := g.log hb
  show (if i.natAbs.log2 + j.natAbs.log2 < 1000000 then R.ok (D.int (i * j)) S else R.bad) = _
  rw [if_pos (by omega)]
theorem gAdd_int (i j : Int) (S : Store) : gAdd (.int i) (.int j) S = .ok (.int (i + j)) S := rfl
theorem gSub_int (i j : Int) (S : Store) : gSub (.int i) (.int j) S = .ok (.int (i - j)) S := rfl
theorem gMod_int {i j : Int} (h : 0 < j) (S : Store) : gMod (.int i) (.int j) S = .ok (.int (i % j)) S := by
  unfold gMod gInt
  simp only [if_pos h]
theorem gDiv_int {i j : Int} (h : 0 < j) (g : j.natAbs.log2 < 9000) (S : Store) : gDiv (.int i) (.int j) S = .ok (.int (i / j)) S := by
  unfold gDiv gInt
  simp only [if_pos (And.intro h g)]
/-- names and blocks, at slots that are written out -/
theorem eVar_at {i : Nat} {ρ : Rho} {d : D} (S : Store) (h : ρ[i]? = some (some d)) : eVar i ρ S = .ok d S := by unfold eVar; rw [h]
theorem runDef_of (N : Nat) (g : SF) (ds : List D) (S : Store) (ρ : Rho) (h : ds.map some ++ List.replicate (N - ds.length) none = ρ) : runDef N g ds S = match g ρ S with
  | .nx _ S' => .ok .non S'
  | .rt d S' => .ok d S'
  | .exc c fs _ S' => .exc c fs S'
  | _ => .bad := by subst h; rfl
theorem eOp_ok {g : D → D → Store → R D} {fa fb : EF} {ρ : Rho} {S S1 S2 : Store} {x y : D} (h : fa ρ S = .ok x S1) (k : fb ρ S1 = .ok y S2) : eOp g fa fb ρ S = g x y S2 := by
  unfold eOp; rw [h]; simp only [R.bind_ok]; rw [k]; rfl
def mixedZ (cell n : Int) : Int := ((cell * (1 + 2 * n) * 48271 % 2147483647 + 7919 * n * n + 104729 * n) * 69621) % 2147483629 / 7
theorem law_mixed_ok (c n : Int) (hc : Bd 100 c) (hn : Bd 100 n) (S : Store) : fn__law_mixed [.int c, .int n] S = .ok (.int (mixedZ c n)) S := by
  have b2 : Bd 2 2 := Bd.of (by decide) (by decide)
  have b1 : Bd 101 1 := Bd.of (by decide) (by decide)
  have h2n := b2.mul hn
  have h12n : Bd 103 (1 + 2 * n) := (b1.mono (by decide)).add (h2n.mono (by decide))
  have hcn := hc.mul h12n
  have k1 : Bd 20 48271 := Bd.of (by decide) (by decide)
  have k2 : Bd 20 7919 := Bd.of (by decide) (by decide)
  have k3 : Bd 20 104729 := Bd.of (by decide) (by decide)
  have k4 : Bd 20 69621 := Bd.of (by decide) (by decide)
  have hbl : Bd 300 (c * (1 + 2 * n) * 48271 % 2147483647 + 7919 * n * n + 104729 * n) := by
    have e1 : Bd 298 (c * (1 + 2 * n) * 48271 % 2147483647) := by
      have := Int.emod_nonneg (c * (1 + 2 * n) * 48271) (b := 2147483647) (by decide)
      have h := Int.emod_lt_of_pos (c * (1 + 2 * n) * 48271) (b := 2147483647) (by decide)
      refine (Bd.of (a := 31) ?_ ?_).mono (by decide) <;> omega
    exact (e1.add (((k2.mul hn).mul hn).mono (by decide))).add ((k3.mul hn).mono (by decide))
  unfold fn__law_mixed body__law_mixed
  rw [runDef_of 3 _ _ _ [some (.int c), some (.int n), none] rfl]
  simp only [sSeq, sSet, sRet, eOp, eVar, eC, eCall, aCons, aNil, List.getElem?_cons_zero, List.getElem?_cons_succ, List.set_cons_zero, List.set_cons_succ, gMul_bd b2 hn (by decide) (by decide) (by decide), R.bind_ok, R.to_ok, gAdd_int,
    gMul_bd hc h12n (by decide) (by decide) (by decide), gMul_bd hcn k1 (by decide) (by decide) (by decide), gInt1, gMod_int (show (0 : Int) < 2147483647 by decide), gMod_int (show (0 : Int) < 2147483629 by decide), gMul_bd k2 hn (by decide) (by decide) (by decide), gMul_bd (k2.mul hn) hn (by decide) (by decide) (by decide), gMul_bd k3 hn (by decide) (by decide) (by decide), gMul_bd hbl k4 (by decide) (by decide) (by decide), gDiv_int (show (0 : Int) < 7 by decide) (show (7 : Int).natAbs.log2 < 9000 by decide)]
  rfl
theorem lcLoop_pure {gg : GF} {te : EF} {good : Store → Bool} {ρ0 : Rho} {S : Store} {f : D → D} (hg : good S = true) : ∀ (items acc : List D), acc.length + items.length ≤ LIM → (∀ x ∈ items, ∃ ρ1, gg x ρ0 = some ρ1 ∧ te ρ1 S = .ok (f x) S) → lcLoop gg tAll te good ρ0 items acc S = .ok (acc ++ items.map f) S
  | [], acc, _, _ => by unfold lcLoop; rw [if_pos hg]; simp
  | x :: xs, acc, hl, h => by
    obtain ⟨ρ1, h1, h2⟩ := h x List.mem_cons_self
    unfold lcLoop
    rw [if_pos hg]
    simp only [h1, tAll, if_true, h2]
    simp only [List.length_cons] at hl
    rw [if_pos (by omega), lcLoop_pure hg xs _ (by simp; omega) fun y hy => h y (List.mem_cons_of_mem _ hy)]
    simp
theorem loop_inv {gg : GF} {chk : Store → Bool} {body : SF} (Iv : Nat → Rho → Store → Prop) (items : List D) (hc : ∀ i ρ S, i ≤ items.length → Iv i ρ S → chk S = true)
    (ht : ∀ i x ρ S, items[i]? = some x → Iv i ρ S → ∃ ρ1 ρ2 S2, gg x ρ = some ρ1 ∧ body ρ1 S = .nx ρ2 S2 ∧ Iv (i + 1) ρ2 S2) : ∀ (k i : Nat) (ρ : Rho) (S : Store), items.length - i = k → i ≤ items.length → Iv i ρ S → ∃ ρ' S', loop gg chk body (items.drop i) ρ S = .nx ρ' S' ∧ Iv items.length ρ' S'
  | 0, i, ρ, S, hk, hi, h => by
    have e : i = items.length := by omega
    subst e
    rw [List.drop_length]
    unfold loop
    rw [if_pos (hc _ _ _ hi h)]
    exact ⟨ρ, S, rfl, h⟩
  | k + 1, i, ρ, S, hk, hi, h => by
    have hlt : i < items.length := by omega
    rw [List.drop_eq_getElem_cons hlt]
    obtain ⟨ρ1, ρ2, S2, h1, h2, h3⟩ := ht i items[i] ρ S (by simp [hlt]) h
    obtain ⟨ρ', S', e, h4⟩ := loop_inv Iv items hc ht k (i + 1) ρ2 S2 (by omega) hlt h3
    unfold loop
    rw [if_pos (hc _ _ _ hi h)]
    simp only [h1, h2]
    exact ⟨ρ', S', e, h4⟩
theorem loop_all {gg : GF} {chk : Store → Bool} {body : SF} (Iv : Nat → Rho → Store → Prop) (items : List D) {ρ : Rho} {S : Store} (h0 : Iv 0 ρ S) (hc : ∀ i ρ S, i ≤ items.length → Iv i ρ S → chk S = true)
    (ht : ∀ i x ρ S, items[i]? = some x → Iv i ρ S → ∃ ρ1 ρ2 S2, gg x ρ = some ρ1 ∧ body ρ1 S = .nx ρ2 S2 ∧ Iv (i + 1) ρ2 S2) : ∃ ρ' S', loop gg chk body items ρ S = .nx ρ' S' ∧ Iv items.length ρ' S' :=
  loop_inv Iv items hc ht _ 0 ρ S rfl (Nat.zero_le _) h0
/-- the 64 numbers that a script is folded into -/
def Folded (xs : List Int) : Prop := xs.length = 64 ∧ ∀ x ∈ xs, 0 ≤ x ∧ x < 2147483647
theorem folded_set {xs : List Int} (h : Folded xs) (k : Nat) (v : Int) (hv : 0 ≤ v ∧ v < 2147483647) : Folded (xs.set k v) :=
  ⟨by rw [List.length_set]; exact h.1, fun x hx => by
    rcases List.mem_or_eq_of_mem_set hx with q | q
    · exact h.2 x q
    · rw [q]; exact hv⟩
theorem dAt_nat {α : Type} (xs : List α) {i : Int} (h0 : 0 ≤ i) (h1 : i < xs.length) : dAt xs i = xs[i.toNat]? := by
  unfold dAt dIx
  rw [if_pos h0, if_pos h1]; rfl
theorem gIx_lst {S : Store} {n : Nat} {xs : List Int} {i : Int} (e : S[n]? = some (.lst (xs.map D.int))) (h0 : 0 ≤ i) (h1 : i < xs.length) : gIx (.ob n) (.int i) S = .ok (.int (xs.getD i.toNat 0)) S := by
  show (match asL S (.ob n) with
    | some ys => (match dAt ys i with
      | some d => R.ok d S
      | none => .bad)
    | none => .bad) = _
  have ea : asL S (.ob n) = some (xs.map D.int) := by simp only [asL, e]
  rw [ea]
  have hl : i.toNat < xs.length := by omega
  have hd : dAt (xs.map D.int) i = some (.int (xs.getD i.toNat 0)) := by
    rw [dAt_nat _ h0 (by simpa using h1), List.getElem?_map, List.getElem?_eq_getElem hl]
    simp [List.getD, List.getElem?_eq_getElem hl]
  simp only [hd]
theorem sPut_lst {f fo fi : EF} {ρ : Rho} {S S1 S2 S3 : Store} {d : D} {n : Nat} {k : Int} {xs : List D} (h1 : f ρ S = .ok d S1) (h2 : fo ρ S1 = .ok (.ob n) S2) (h3 : fi ρ S2 = .ok (.int k) S3) (h4 : S3[n]? = some (.lst xs)) (k0 : 0 ≤ k) (k1 : k < xs.length) :
    sPut f fo fi ρ S = .nx ρ (S3.set n (.lst (xs.set k.toNat d))) := by
  unfold sPut
  rw [h1]; simp only [R.to_ok]
  rw [h2]; simp only [R.to_ok]
  rw [h3]; simp only [R.to_ok]
  rw [h4]
  have : dIx xs.length k = some k.toNat := by unfold dIx; rw [if_pos k0, if_pos k1]
  simp only [this]
theorem at_last (S : Store) (o : O) : (S ++ [o])[S.length]? = some o := by simp
theorem set_last (S : Store) (o u : O) : (S ++ [o]).set S.length u = S ++ [u] := by simp
theorem bd_small {i : Int} (h : 0 ≤ i ∧ i < 2147483647) : Bd 31 i := Bd.of (by omega) (by omega)
theorem getD_ok {xs : List Int} (h : Folded xs) {i : Nat} (hi : i < 64) : 0 ≤ xs.getD i 0 ∧ xs.getD i 0 < 2147483647 := by
  have hl : i < xs.length := by rw [h.1]; exact hi
  rw [List.getD, List.getElem?_eq_getElem hl]
  exact h.2 _ (List.getElem_mem hl)
theorem mod_ok (a : Int) : 0 ≤ a % 2147483647 ∧ a % 2147483647 < 2147483647 := ⟨Int.emod_nonneg _ (by decide), Int.emod_lt_of_pos _ (by decide)⟩
theorem law_folded_ok {S : Store} {k : Nat} {ns : List Int} (hk : S[k]? = some (.frz (ns.map D.int))) : ∃ xs, Folded xs ∧ fn__law_folded [.ob k] S = .ok (.ob S.length) (S ++ [.lst (xs.map D.int)]) := by
  have hkl : k < S.length := (List.getElem?_eq_some_iff.mp hk).1
  have ek : ∀ o, (S ++ [o])[k]? = some (.frz (ns.map D.int)) := fun o => by rw [List.getElem?_append_left hkl]; exact hk
  unfold fn__law_folded body__law_folded
  rw [runDef_of 4 _ _ _ [some (.ob k), none, none, none] rfl]
  -- found = [17 + n for n in range(64)]
  have c1 : eLC (iR1 (aCons (eC (.int 64)) aNil)) [2] (gN 2) tAll (eOp gAdd (eC (.int 17)) (eVar 2)) [some (.ob k), none, none, none] S = .ok (.ob S.length) (S ++ [.lst (((List.range 64).map fun (i : Nat) => (17 + (i : Int) : Int)).map D.int)]) := by
    unfold eLC
    have e1 : iR1 (aCons (eC (.int 64)) aNil) [some (.ob k), none, none, none] S = .ok (upFrom 0 64, noChk) S := rfl
    rw [e1]; simp only [R.bind_ok]
    rw [lcLoop_pure (f := fun d => match d with | .int i => .int (17 + i) | d => d) rfl _ _ (by rw [upFrom_length]; decide)]
    · simp only [R.bind_ok, newL, List.nil_append]
      congr 1
    · intro x hx
      unfold upFrom at hx
      obtain ⟨i, _, rfl⟩ := List.mem_map.mp hx
      exact ⟨_, rfl, rfl⟩
  have f0 : Folded ((List.range 64).map fun (i : Nat) => (17 + (i : Int) : Int)) := ⟨by simp, fun x hx => by
    obtain ⟨i, hi, rfl⟩ := List.mem_map.mp hx
    have := List.mem_range.mp hi
    omega⟩
  generalize ((List.range 64).map fun (i : Nat) => (17 + (i : Int) : Int)) = xs0 at c1 f0
  unfold sSeq sSet
  rw [c1]; simp only [R.to_ok, List.set_cons_succ, List.set_cons_zero]
  -- each cell
  let Iv : Nat → Rho → Store → Prop := fun _ ρ St => ∃ xs a b, Folded xs ∧ St = S ++ [.lst (xs.map D.int)] ∧ ρ = [some (.ob k), some (.ob S.length), a, b]
  have l1 := loop_all (gg := gTupD 2 (gsCons (gN 2) (gsCons (gN 3) gsNil))) (chk := chkL (.ob k) (ns.map D.int))
    (body := sPut (eOp gMod (eCall gInt1 (aCons (eOp gAdd (eOp gMul (eOp gIx (eVar 1) (eOp gMod (eCall gInt1 (aCons (eVar 2) aNil)) (eC (.int 64)))) (eC (.int 48271))) (eVar 3)) aNil)) (eC (.int 2147483647))) (eVar 1) (eOp gMod (eCall gInt1 (aCons (eVar 2) aNil)) (eC (.int 64))))
    Iv (enumD (ns.map D.int)) (ρ := [some (.ob k), some (.ob S.length), none, none]) (S := S ++ [.lst (xs0.map D.int)]) ⟨xs0, _, _, f0, rfl, rfl⟩
    (fun i ρ St _ ⟨xs, a, b, _, e, _⟩ => by
      rw [chkL_ok]
      subst e
      simp only [asL, ek]) ?_
  · obtain ⟨ρ1, S1, e1, xs1, a1, b1, f1, rfl, rfl⟩ := l1
    have hf : sFor (iEnumL (aCons (eVar 0) aNil)) (gTupD 2 (gsCons (gN 2) (gsCons (gN 3) gsNil))) (sPut (eOp gMod (eCall gInt1 (aCons (eOp gAdd (eOp gMul (eOp gIx (eVar 1) (eOp gMod (eCall gInt1 (aCons (eVar 2) aNil)) (eC (.int 64)))) (eC (.int 48271))) (eVar 3)) aNil)) (eC (.int 2147483647))) (eVar 1) (eOp gMod (eCall gInt1 (aCons (eVar 2) aNil)) (eC (.int 64)))) [some (.ob k), some (.ob S.length), none, none] (S ++ [.lst (xs0.map D.int)]) = .nx [some (.ob k), some (.ob S.length), a1, b1] (S ++ [.lst (xs1.map D.int)]) := by
      unfold sFor
      have e : iEnumL (aCons (eVar 0) aNil) [some (.ob k), some (.ob S.length), none, none] (S ++ [.lst (xs0.map D.int)]) = .ok (enumD (ns.map D.int), chkL (.ob k) (ns.map D.int)) (S ++ [.lst (xs0.map D.int)]) := by
        simp only [iEnumL, aCons, aNil, eVar, List.getElem?_cons_zero, R.bind_ok, asL, ek]
      rw [e]; simp only [R.to_ok]
      exact e1
    rw [hf]
    simp only
    -- each number and the one ahead
    let Iv2 : Nat → Rho → Store → Prop := fun _ ρ St => ∃ xs a b, Folded xs ∧ St = S ++ [.lst (xs.map D.int)] ∧ ρ = [some (.ob k), some (.ob S.length), a, b]
    have l2 := loop_all (gg := gN 2) (chk := noChk) (body := sPut (eOp gMod (eCall gInt1 (aCons (eOp gAdd (eOp gIx (eVar 1) (eVar 2)) (eOp gMul (eOp gIx (eVar 1) (eOp gSub (eVar 2) (eC (.int 1)))) (eC (.int 16807)))) aNil)) (eC (.int 2147483647))) (eVar 1) (eVar 2))
      Iv2 (upFrom 1 63) (ρ := [some (.ob k), some (.ob S.length), a1, b1]) (S := S ++ [.lst (xs1.map D.int)]) ⟨xs1, _, _, f1, rfl, rfl⟩ (fun _ _ _ _ _ => rfl) ?_
    · obtain ⟨ρ2, S2, e2, xs2, a2, b2, f2, rfl, rfl⟩ := l2
      have hf2 : sFor (iR2 (aCons (eC (.int 1)) (aCons (eC (.int 64)) aNil))) (gN 2) (sPut (eOp gMod (eCall gInt1 (aCons (eOp gAdd (eOp gIx (eVar 1) (eVar 2)) (eOp gMul (eOp gIx (eVar 1) (eOp gSub (eVar 2) (eC (.int 1)))) (eC (.int 16807)))) aNil)) (eC (.int 2147483647))) (eVar 1) (eVar 2)) [some (.ob k), some (.ob S.length), a1, b1] (S ++ [.lst (xs1.map D.int)]) = .nx [some (.ob k), some (.ob S.length), a2, b2] (S ++ [.lst (xs2.map D.int)]) := by
        unfold sFor
        have e : iR2 (aCons (eC (.int 1)) (aCons (eC (.int 64)) aNil)) [some (.ob k), some (.ob S.length), a1, b1] (S ++ [.lst (xs1.map D.int)]) = .ok (upFrom 1 63, noChk) (S ++ [.lst (xs1.map D.int)]) := rfl
        rw [e]; simp only [R.to_ok]
        exact e2
      rw [hf2]
      exact ⟨xs2, f2, rfl⟩
    · rintro i x ρ St hx ⟨xs, a, b, fx, rfl, rfl⟩
      have hi : i < 63 := by
        have := (List.getElem?_eq_some_iff.mp hx).1
        rwa [upFrom_length] at this
      have ex : x = .int (1 + (i : Int)) := by
        have := (List.getElem?_eq_some_iff.mp hx).2
        rw [← this]; simp [upFrom]
      subst ex
      have g1 := gIx_lst (xs := xs) (at_last S (.lst (xs.map D.int))) (i := 1 + (i : Int)) (by omega) (by rw [fx.1]; omega)
      have g2 := gIx_lst (xs := xs) (at_last S (.lst (xs.map D.int))) (i := 1 + (i : Int) - 1) (by omega) (by rw [fx.1]; omega)
      have bm := bd_small (getD_ok fx (i := ((1 + (i : Int) - 1)).toNat) (by omega))
      have k1 : Bd 20 16807 := Bd.of (by decide) (by decide)
      refine ⟨_, _, _, rfl, sPut_lst (k := 1 + (i : Int)) (S1 := S ++ [.lst (xs.map D.int)]) (S2 := S ++ [.lst (xs.map D.int)]) (S3 := S ++ [.lst (xs.map D.int)]) (d := .int ((xs.getD ((1 + (i : Int))).toNat 0 + xs.getD ((1 + (i : Int) - 1)).toNat 0 * 16807) % 2147483647)) ?_ rfl rfl (at_last _ _) (by omega) (by simp [fx.1]; omega), ?_⟩
      · simp only [eOp, eVar, eC, eCall, aCons, aNil, List.getElem?_cons_zero, List.getElem?_cons_succ, List.set_cons_zero, List.set_cons_succ, R.bind_ok, g1, gSub_int, g2, gMul_bd bm k1 (by decide) (by decide) (by decide), gAdd_int, gInt1, gMod_int (show (0 : Int) < 2147483647 by decide)]
      · exact ⟨_, _, _, folded_set fx _ _ (mod_ok _), by rw [set_last, List.map_set], rfl⟩
  · rintro i x ρ St hx ⟨xs, a, b, fx, rfl, rfl⟩
    obtain ⟨d, hd, rfl⟩ := enumD_get hx
    rw [List.getElem?_map] at hd
    obtain ⟨cell, hc, rfl⟩ := Option.map_eq_some_iff.mp hd
    have m0 : 0 ≤ (i : Int) % 64 := Int.emod_nonneg _ (by decide)
    have m1 : (i : Int) % 64 < 64 := Int.emod_lt_of_pos _ (by decide)
    have g1 := gIx_lst (xs := xs) (at_last S (.lst (xs.map D.int))) (i := (i : Int) % 64) m0 (by rw [fx.1]; exact m1)
    have bm := bd_small (getD_ok fx (i := ((i : Int) % 64).toNat) (by omega))
    have k1 : Bd 20 48271 := Bd.of (by decide) (by decide)
    refine ⟨_, _, _, rfl, sPut_lst (k := (i : Int) % 64) (S1 := S ++ [.lst (xs.map D.int)]) (S2 := S ++ [.lst (xs.map D.int)]) (S3 := S ++ [.lst (xs.map D.int)]) (d := .int ((xs.getD ((i : Int) % 64).toNat 0 * 48271 + cell) % 2147483647)) ?_ rfl ?_ (at_last _ _) m0 (by simp [fx.1]; exact m1), ?_⟩
    · simp only [eOp, eVar, eC, eCall, aCons, aNil, List.getElem?_cons_zero, List.getElem?_cons_succ, List.set_cons_zero, List.set_cons_succ, R.bind_ok, gInt1, gMod_int (show (0 : Int) < 64 by decide), g1, gMul_bd bm k1 (by decide) (by decide) (by decide), gAdd_int, gMod_int (show (0 : Int) < 2147483647 by decide)]
    · simp only [eOp, eVar, eC, eCall, aCons, aNil, List.getElem?_cons_zero, List.getElem?_cons_succ, List.set_cons_zero, List.set_cons_succ, R.bind_ok, gInt1, gMod_int (show (0 : Int) < 64 by decide)]
    · exact ⟨_, _, _, folded_set fx _ _ (mod_ok _), by rw [set_last, List.map_set], rfl⟩
end Z

set_option Elab.async false
set_option linter.all false
set_option maxRecDepth 100000
set_option maxHeartbeats 1000000
namespace Z
local instance : Tabs := ⟨[]⟩
open PySem L2
theorem pyD_int (n : Nat) (S : Store) (i : Int) : pyD n S (.int i) = some (.int i) := by cases n <;> rfl
theorem pyAll_ints (n : Nat) (S : Store) : ∀ xs : List Int, pyAll (pyD n S) (xs.map D.int) = some (xs.map PyData.int)
  | [] => rfl
  | x :: xs => by
    simp only [List.map_cons, pyAll, pyD_int, pyAll_ints n S xs]
theorem canLay_ints : ∀ xs : List Int, PyData.canLayAll0 (xs.map PyData.int) = true
  | [] => by simp only [List.map_nil, PyData.canLayAll0]
  | x :: xs => by simp only [List.map_cons, PyData.canLayAll0, PyData.canLay0, canLay_ints xs, Bool.and_self]
theorem depth_ints : ∀ xs : List Int, PyData.depthAll (xs.map PyData.int) = 0
  | [] => by simp only [List.map_nil, PyData.depthAll]
  | x :: xs => by simp only [List.map_cons, PyData.depthAll, PyData.depth, depth_ints xs, Nat.max_self]
theorem eqv_ints : ∀ xs ys : List Int, PyData.eqvAll (xs.map PyData.int) (ys.map PyData.int) = decide (xs = ys)
  | [], [] => by simp [PyData.eqvAll]
  | [], y :: ys => by simp [PyData.eqvAll]
  | x :: xs, [] => by simp [PyData.eqvAll]
  | x :: xs, y :: ys => by
    simp only [List.map_cons, PyData.eqvAll, PyData.eqv, eqv_ints xs ys]
    by_cases h : x = y
    · subst h; simp
    · simp [h]
theorem showable_ints : ∀ xs : List Int, (∀ x ∈ xs, Bd 1000 x) → PyData.showableAll (xs.map PyData.int) = true
  | [], _ => by simp only [List.map_nil, PyData.showableAll]
  | x :: xs, h => by
    have := (h x List.mem_cons_self).log (by decide)
    simp only [List.map_cons, PyData.showableAll, PyData.showable, showable_ints xs (fun y hy => h y (List.mem_cons_of_mem _ hy)), Bool.and_true, decide_eq_true_eq]
    omega
theorem eq_lsts {neg : Bool} {S : Store} {g h : Nat} {xs ys : List Int} (eg : S[g]? = some (.lst (xs.map D.int))) (eh : S[h]? = some (.lst (ys.map D.int))) : gEqD neg (.ob g) (.ob h) S = .ok (.bl (if neg = true then !decide (xs = ys) else decide (xs = ys))) S := by
  have p1 : pyD FUEL S (.ob g) = some (.list (xs.map PyData.int)) := by
    show (match asL S (.ob g) with
      | some zs => (pyAll (pyD 11 S) zs).map PyData.list
      | none => none) = _
    have : asL S (.ob g) = some (xs.map D.int) := by simp only [asL, eg]
    rw [this]; simp only [pyAll_ints, Option.map]
  have p2 : pyD FUEL S (.ob h) = some (.list (ys.map PyData.int)) := by
    show (match asL S (.ob h) with
      | some zs => (pyAll (pyD 11 S) zs).map PyData.list
      | none => none) = _
    have : asL S (.ob h) = some (ys.map D.int) := by simp only [asL, eh]
    rw [this]; simp only [pyAll_ints, Option.map]
  have s : ∀ zs : List Int, SeqAt.shaped (.list (zs.map PyData.int)) = true := fun zs => by
    unfold SeqAt.shaped
    simp only [PyData.canLay0, canLay_ints, PyData.depth, depth_ints]
    decide
  show gEqP neg (.ob g) (.ob h) S = _
  unfold gEqP
  rw [p1, p2]
  simp only
  rw [if_pos ⟨s xs, s ys⟩]
  simp only [PyData.eqv, eqv_ints]
/-- nothing but the draws' own things has changed -/
structure Keep (n g : Nat) (S S' : Store) : Prop where
  len : S.length ≤ S'.length
  at' : ∀ i, i ≠ n → i ≠ g → i < S.length → S'[i]? = S[i]?
theorem Keep.refl (n g : Nat) (S : Store) : Keep n g S S := ⟨Nat.le_refl _, fun _ _ _ _ => rfl⟩
theorem Keep.trans {n g : Nat} {S S1 S2 : Store} (a : Keep n g S S1) (b : Keep n g S1 S2) : Keep n g S S2 :=
  ⟨Nat.le_trans a.len b.len, fun i h1 h2 h3 => by rw [b.at' i h1 h2 (Nat.lt_of_lt_of_le h3 a.len), a.at' i h1 h2 h3]⟩
theorem Keep.grow (n g : Nat) (S T : Store) : Keep n g S (S ++ T) := ⟨by simp, fun i _ _ h => List.getElem?_append_left h⟩
/-- the state of the draws: where its dict, its cells, its great numbers stand -/
structure Mst (n c g : Nat) (B : Int) (S : Store) : Prop where
  nc : n ≠ c
  ng : n ≠ g
  cg : c ≠ g
  ex : ∃ (k : Int) (xs gs : List Int), S[n]? = some (.dct [(.inr "cells", .ob c), (.inr "great", .ob g), (.inr "spot", .int k)]) ∧ S[c]? = some (.lst (xs.map D.int)) ∧ S[g]? = some (.lst (gs.map D.int)) ∧ Folded xs ∧ 0 ≤ k ∧ k ≤ B
theorem Mst.grow {n c g : Nat} {B : Int} {S : Store} (m : Mst n c g B S) (T : Store) : Mst n c g B (S ++ T) := by
  obtain ⟨nc, ng, cg, k, xs, gs, h1, h2, h3, h4, h5, h6⟩ := m
  have lt : ∀ {i : Nat} {o : O}, S[i]? = some o → (S ++ T)[i]? = some o := fun h => by
    rw [List.getElem?_append_left (List.getElem?_eq_some_iff.mp h).1]; exact h
  exact ⟨nc, ng, cg, k, xs, gs, lt h1, lt h2, lt h3, h4, h5, h6⟩
theorem Mst.mono {n c g : Nat} {B B' : Int} {S : Store} (m : Mst n c g B S) (h : B ≤ B') : Mst n c g B' S := by
  obtain ⟨nc, ng, cg, k, xs, gs, h1, h2, h3, h4, h5, h6⟩ := m
  exact ⟨nc, ng, cg, k, xs, gs, h1, h2, h3, h4, h5, by omega⟩
theorem k_cg : ¬ (("cells" : Str) = "great") := by decide +kernel
theorem k_cs : ¬ (("cells" : Str) = "spot") := by decide +kernel
theorem k_gs : ¬ (("great" : Str) = "spot") := by decide +kernel
theorem k_gc : ¬ (("great" : Str) = "cells") := by decide +kernel
theorem k_sc : ¬ (("spot" : Str) = "cells") := by decide +kernel
theorem k_sg : ¬ (("spot" : Str) = "great") := by decide +kernel
theorem law_begun_ok {S : Store} {k : Nat} {ns : List Int} (hk : S[k]? = some (.frz (ns.map D.int))) (hl : ns.length ≤ 63) : ∃ n c g S', fn__law_begun [.ob k] S = .ok (.ob n) S' ∧ Mst n c g 0 S' := by
  obtain ⟨xs, fx, e1⟩ := law_folded_ok hk
  have hkl : k < S.length := (List.getElem?_eq_some_iff.mp hk).1
  unfold fn__law_begun body__law_begun
  rw [runDef_of 3 _ _ _ [some (.ob k), none, none] rfl]
  have d1 : eDisp [((eC (.str "cells")), (eFn 1 fn__law_folded (aCons (eVar 0) aNil))), ((eC (.str "great")), (eLst aNil)), ((eC (.str "spot")), (eC (.int 0)))] [some (.ob k), none, none] S =
      .ok (.ob (S.length + 2)) (S ++ [.lst (xs.map D.int), .lst [], .dct [(.inr "cells", .ob S.length), (.inr "great", .ob (S.length + 1)), (.inr "spot", .int 0)]]) := by
    have f1 : eFn 1 fn__law_folded (aCons (eVar 0) aNil) [some (.ob k), none, none] S = .ok (.ob S.length) (S ++ [.lst (xs.map D.int)]) := by
      unfold eFn
      simp only [aCons, aNil, eVar, List.getElem?_cons_zero, R.bind_ok, List.length_cons, List.length_nil, if_true]
      exact e1
    unfold eDisp
    simp only [dispGo, eC, f1, R.bind_ok, keyD, eLst, aNil, List.length_nil, newL, newD]
    rw [if_pos (Nat.zero_le _)]
    simp only [R.bind_ok, keyD]
    have dm : dMerge [((.inr "cells" : Key), D.ob S.length), (.inr "great", D.ob (S ++ [O.lst (List.map D.int xs)]).length), (.inr "spot", D.int 0)] = [(.inr "cells", D.ob S.length), (.inr "great", D.ob (S.length + 1)), (.inr "spot", D.int 0)] := by
      unfold dMerge dSetK
      simp [k_cg, k_cs, k_gs]
    rw [dm]
    simp
  unfold sSeq sSet
  rw [d1]; simp only [R.to_ok, List.set_cons_succ, List.set_cons_zero]
  generalize hS1 : S ++ [O.lst (xs.map D.int), O.lst [], O.dct [(.inr "cells", D.ob S.length), (.inr "great", D.ob (S.length + 1)), (.inr "spot", D.int 0)]] = S1
  have l1 : S1.length = S.length + 3 := by rw [← hS1]; simp
  have ek : S1[k]? = some (.frz (ns.map D.int)) := by rw [← hS1, List.getElem?_append_left hkl]; exact hk
  have ec : S1[S.length]? = some (.lst (xs.map D.int)) := by rw [← hS1, List.getElem?_append_right (Nat.le_refl _)]; simp
  have en : S1[S.length + 2]? = some (.dct [(.inr "cells", D.ob S.length), (.inr "great", D.ob (S.length + 1)), (.inr "spot", D.int 0)]) := by rw [← hS1, List.getElem?_append_right (by omega)]; simp
  -- the great cells
  have c1 : eLC (iLst (eVar 0)) [2] (gN 2) tAll (eIf (tOf (eOp gGe (eVar 2) (eOp gPow (eC (.int 10)) (eC (.int 18))))) (eVar 2) (eC (.int 0))) [some (.ob k), some (.ob (S.length + 2)), none] S1 =
      .ok (.ob S1.length) (S1 ++ [.lst ((ns.map fun i => if 10 ^ 18 ≤ i then i else 0).map D.int)]) := by
    unfold eLC
    have e : iLst (eVar 0) [some (.ob k), some (.ob (S.length + 2)), none] S1 = .ok (ns.map D.int, chkL (.ob k) (ns.map D.int)) S1 := by
      simp only [iLst, eVar, List.getElem?_cons_zero, R.bind_ok, asL, ek]
    rw [e]; simp only [R.bind_ok]
    rw [lcLoop_pure (f := fun d => match d with | .int i => .int (if 10 ^ 18 ≤ i then i else 0) | d => d) (by rw [chkL_ok]; simp only [asL, ek]) _ _ (by have : LIM = 16777216 := rfl; simp; omega)]
    · simp only [R.bind_ok, newL, List.nil_append, List.map_map]
      rfl
    · intro x hx
      obtain ⟨i, _, rfl⟩ := List.mem_map.mp hx
      refine ⟨_, rfl, ?_⟩
      have hp : gPow (.int 10) (.int 18) S1 = .ok (.int (10 ^ 18)) S1 := rfl
      simp only [eIf, tOf, eOp, eVar, eC, wipeD, List.getElem?_cons_zero, List.getElem?_cons_succ, List.set_cons_zero, List.set_cons_succ, R.bind_ok, hp, gGe, gCmp]
      by_cases h : (10 : Int) ^ 18 ≤ i
      · rw [decide_eq_true h]
        show R.ok (D.int i) S1 = R.ok (D.int (if 10 ^ 18 ≤ i then i else 0)) S1
        rw [if_pos h]
      · rw [decide_eq_false h]
        show R.ok (D.int 0) S1 = R.ok (D.int (if 10 ^ 18 ≤ i then i else 0)) S1
        rw [if_neg h]
  have p1 : sDPutZ (eLC (iLst (eVar 0)) [2] (gN 2) tAll (eIf (tOf (eOp gGe (eVar 2) (eOp gPow (eC (.int 10)) (eC (.int 18))))) (eVar 2) (eC (.int 0)))) (eVar 1) (eC (.str "great")) [some (.ob k), some (.ob (S.length + 2)), none] S1 =
      .nx [some (.ob k), some (.ob (S.length + 2)), none] ((S1 ++ [O.lst ((ns.map fun i => if 10 ^ 18 ≤ i then i else 0).map D.int)]).set (S.length + 2) (O.dct [(.inr "cells", D.ob S.length), (.inr "great", D.ob S1.length), (.inr "spot", D.int 0)])) := by
    unfold sDPutZ
    rw [c1]; simp only [R.to_ok, eVar, eC, List.getElem?_cons_zero, List.getElem?_cons_succ, keyD]
    rw [List.getElem?_append_left (by omega), en]
    simp only
    rw [if_pos (by show 3 < LIM; decide)]
    congr 2
  rw [p1]
  simp only [sRet, eVar, List.getElem?_cons_zero, List.getElem?_cons_succ, R.to_ok]
  refine ⟨S.length + 2, S.length, S1.length, _, rfl, by omega, by omega, by omega, 0, xs, ns.map fun i => if 10 ^ 18 ≤ i then i else 0, ?_, ?_, ?_, fx, Int.le_refl _, Int.le_refl _⟩
  · rw [List.getElem?_set_self (by simp; omega)]
  · rw [List.getElem?_set_ne (by omega), List.getElem?_append_left (by omega)]; exact ec
  · rw [List.getElem?_set_ne (by omega)]; simp
theorem sIf_of {c : TF} {g h : SF} {ρ : Rho} {S S1 : Store} {k : Bool} (e : c ρ S = .ok k S1) : sIf c g h ρ S = if k = true then g ρ S1 else h ρ S1 := by unfold sIf; rw [e]; rfl
theorem sSeq_nx {g h : SF} {ρ ρ' : Rho} {S S' : Store} (e : g ρ S = .nx ρ' S') : sSeq g h ρ S = h ρ' S' := by unfold sSeq; rw [e]
theorem sSeq_rt {g h : SF} {ρ : Rho} {S S' : Store} {d : D} (e : g ρ S = .rt d S') : sSeq g h ρ S = .rt d S' := by unfold sSeq; rw [e]
theorem sSet_of {i : Nat} {f : EF} {ρ : Rho} {S S1 : Store} {d : D} (e : f ρ S = .ok d S1) : sSet i f ρ S = .nx (ρ.set i (some d)) S1 := by unfold sSet; rw [e]; rfl
theorem sRet_of {f : EF} {ρ : Rho} {S S1 : Store} {d : D} (e : f ρ S = .ok d S1) : sRet f ρ S = .rt d S1 := by unfold sRet; rw [e]; rfl
theorem eDGet_of {fd fk : EF} {ρ : Rho} {S S1 S2 : Store} {n : Nat} {y d : D} {k : Key} {kvs : List (Key × D)} (h1 : fd ρ S = .ok (.ob n) S1) (h2 : fk ρ S1 = .ok y S2) (h3 : S2[n]? = some (.dct kvs)) (h4 : keyD y = some k) (h5 : dVal kvs k = some d) : eDGet fd fk ρ S = .ok d S2 := by
  unfold eDGet
  rw [h1]; simp only [R.bind_ok]
  rw [h2]; simp only [R.bind_ok, asK, h3, h4, h5]
theorem dVal_c (a b c : D) : dVal [((.inr "cells" : Key), a), (.inr "great", b), (.inr "spot", c)] (.inr "cells") = some a := by simp [dVal]
theorem dVal_g (a b c : D) : dVal [((.inr "cells" : Key), a), (.inr "great", b), (.inr "spot", c)] (.inr "great") = some b := by simp [dVal, k_cg]
theorem dVal_s (a b c : D) : dVal [((.inr "cells" : Key), a), (.inr "great", b), (.inr "spot", c)] (.inr "spot") = some c := by simp [dVal, k_cs, k_gs]
theorem law_draw_ok {n c g : Nat} {B : Int} {S : Store} (m : Mst n c g B S) (hB : B < 2 ^ 60) {limit : Int} (h0 : 0 < limit) (hl : Bd 8000 limit) : ∃ v S', fn__law_draw [.ob n, .int limit] S = .ok (.int v) S' ∧ 0 ≤ v ∧ v < limit ∧ Mst n c g (B + 1) S' ∧ Keep n g S S' := by
  obtain ⟨nc, ng, cg, k, xs, gs, hn, hc, hg, fx, k0, kB⟩ := m
  have ln : n < S.length := (List.getElem?_eq_some_iff.mp hn).1
  have lc : c < S.length := (List.getElem?_eq_some_iff.mp hc).1
  have lg : g < S.length := (List.getElem?_eq_some_iff.mp hg).1
  have hlog := hl.log (by decide)
  unfold fn__law_draw body__law_draw
  rw [runDef_of 6 _ _ _ [some (.ob n), some (.int limit), none, none, none, none] rfl]
  -- n = m['spot']; m['spot'] = n + 1
  have e1 : eDGet (eVar 0) (eC (.str "spot")) [some (.ob n), some (.int limit), none, none, none, none] S = .ok (.int k) S := eDGet_of rfl rfl hn rfl (dVal_s _ _ _)
  generalize hS1 : S.set n (.dct [(.inr "cells", D.ob c), (.inr "great", D.ob g), (.inr "spot", D.int (k + 1))]) = S1
  have l1 : S1.length = S.length := by rw [← hS1, List.length_set]
  have hn1 : S1[n]? = some (.dct [(.inr "cells", D.ob c), (.inr "great", D.ob g), (.inr "spot", D.int (k + 1))]) := by rw [← hS1, List.getElem?_set_self ln]
  have ot1 : ∀ i, i ≠ n → S1[i]? = S[i]? := fun i hi => by rw [← hS1, List.getElem?_set_ne (Ne.symm hi)]
  have hc1 : S1[c]? = some (.lst (xs.map D.int)) := by rw [ot1 c (Ne.symm nc)]; exact hc
  have hg1 : S1[g]? = some (.lst (gs.map D.int)) := by rw [ot1 g (Ne.symm ng)]; exact hg
  have e2 : sDPutZ (eOp gAdd (eVar 2) (eC (.int 1))) (eVar 0) (eC (.str "spot")) [some (.ob n), some (.int limit), some (.int k), none, none, none] S = .nx [some (.ob n), some (.int limit), some (.int k), none, none, none] S1 := by
    unfold sDPutZ
    simp only [eOp, eVar, eC, List.getElem?_cons_zero, List.getElem?_cons_succ, R.bind_ok, gAdd_int, R.to_ok, keyD, hn]
    rw [if_pos (by show 3 < LIM; decide), ← hS1]
    congr 2
  -- m['great'] != []
  have e3 : tOf (eOp (gEqD true) (eDGet (eVar 0) (eC (.str "great"))) (eLst aNil)) [some (.ob n), some (.int limit), some (.int k), none, none, none] S1 = .ok (!decide (gs = [])) (S1 ++ [.lst []]) := by
    have q1 : eDGet (eVar 0) (eC (.str "great")) [some (.ob n), some (.int limit), some (.int k), none, none, none] S1 = .ok (.ob g) S1 := eDGet_of rfl rfl hn1 rfl (dVal_g _ _ _)
    have q2 : eLst aNil [some (.ob n), some (.int limit), some (.int k), none, none, none] S1 = .ok (.ob S1.length) (S1 ++ [.lst []]) := rfl
    unfold tOf eOp
    rw [q1]; simp only [R.bind_ok]
    rw [q2]; simp only [R.bind_ok]
    rw [eq_lsts (xs := gs) (ys := []) (by rw [List.getElem?_append_left (by omega)]; exact hg1) (by simp)]
    simp
  have hn2 : (S1 ++ [O.lst []])[n]? = some (.dct [(.inr "cells", D.ob c), (.inr "great", D.ob g), (.inr "spot", D.int (k + 1))]) := by rw [List.getElem?_append_left (by omega)]; exact hn1
  have hc2 : (S1 ++ [O.lst []])[c]? = some (.lst (xs.map D.int)) := by rw [List.getElem?_append_left (by omega)]; exact hc1
  have hg2 : (S1 ++ [O.lst []])[g]? = some (.lst (gs.map D.int)) := by rw [List.getElem?_append_left (by omega)]; exact hg1
  generalize hS2 : S1 ++ [O.lst []] = S2 at e3 hn2 hc2 hg2
  have l2 : S2.length = S.length + 1 := by rw [← hS2]; simp [l1]
  have ot2 : ∀ i, i ≠ n → i < S.length → S2[i]? = S[i]? := fun i hi hl => by rw [← hS2, List.getElem?_append_left (by omega), ot1 i hi]
  have kp2 : Keep n g S S2 := ⟨by omega, fun i h1 h2 h3 => ot2 i h1 h3⟩
  have mst2 : Mst n c g (B + 1) S2 := ⟨nc, ng, cg, k + 1, xs, gs, hn2, hc2, hg2, fx, by omega, by omega⟩
  -- the mixed number
  have tailR : ∀ (ρ4 ρ5 : Option D) (r3 : Option D), ∃ v, sSeq (sSet 3 (eDGet (eVar 0) (eC (.str "cells")))) (sRet (eOp gMod (eCall gInt1 (aCons (eFn 2 fn__law_mixed (aCons (eFn 2 fn__law_mixed (aCons (eOp gAdd (eOp gIx (eVar 3) (eOp gMod (eCall gInt1 (aCons (eVar 2) aNil)) (eC (.int 64)))) (eOp gMul (eC (.int 31)) (eOp gDiv (eVar 2) (eC (.int 64))))) (aCons (eVar 2) aNil))) (aCons (eOp gAdd (eVar 2) (eC (.int 7))) aNil))) aNil)) (eVar 1))) [some (.ob n), some (.int limit), some (.int k), r3, ρ4, ρ5] S2 = .rt (.int v) S2 ∧ 0 ≤ v ∧ v < limit := by
    intro ρ4 ρ5 r3
    have q1 : eDGet (eVar 0) (eC (.str "cells")) [some (.ob n), some (.int limit), some (.int k), r3, ρ4, ρ5] S2 = .ok (.ob c) S2 := eDGet_of rfl rfl hn2 rfl (dVal_c _ _ _)
    have m0 : 0 ≤ k % 64 := Int.emod_nonneg _ (by decide)
    have m1 : k % 64 < 64 := Int.emod_lt_of_pos _ (by decide)
    have g1 := gIx_lst (xs := xs) hc2 (i := k % 64) m0 (by rw [fx.1]; exact m1)
    have b1 := getD_ok fx (i := (k % 64).toNat) (by omega)
    have bk : Bd 60 k := Bd.of (by omega) (by omega)
    have d0 : 0 ≤ k / 64 := Int.ediv_nonneg k0 (by decide)
    have d1 : k / 64 ≤ k := Int.ediv_le_self _ k0
    have b31 : Bd 10 31 := Bd.of (by decide) (by decide)
    have bq : Bd 60 (k / 64) := Bd.of (by omega) (by omega)
    have bc : Bd 80 (xs.getD (k % 64).toNat 0 + 31 * (k / 64)) := ((bd_small b1).mono (by decide : 31 ≤ 79)).add ((b31.mul bq).mono (by decide))
    have mx1 := law_mixed_ok (xs.getD (k % 64).toNat 0 + 31 * (k / 64)) k (bc.mono (by decide)) (bk.mono (by decide)) S2
    have bm : Bd 31 (mixedZ (xs.getD (k % 64).toNat 0 + 31 * (k / 64)) k) := by
      unfold mixedZ
      generalize (((xs.getD (k % 64).toNat 0 + 31 * (k / 64)) * (1 + 2 * k) * 48271 % 2147483647 + 7919 * k * k + 104729 * k) * 69621) = z
      have z0 : 0 ≤ z % 2147483629 := Int.emod_nonneg _ (by decide)
      have z1 : z % 2147483629 < 2147483629 := Int.emod_lt_of_pos _ (by decide)
      exact Bd.of (by omega) (by omega)
    have b7 : Bd 60 7 := Bd.of (by decide) (by decide)
    have mx2 := law_mixed_ok (mixedZ (xs.getD (k % 64).toNat 0 + 31 * (k / 64)) k) (k + 7) (bm.mono (by decide)) ((bk.add b7).mono (by decide)) S2
    refine ⟨mixedZ (mixedZ (xs.getD (k % 64).toNat 0 + 31 * (k / 64)) k) (k + 7) % limit, ?_, Int.emod_nonneg _ (by omega), Int.emod_lt_of_pos _ h0⟩
    unfold sSeq sSet
    rw [q1]
    simp only [R.to_ok, sRet, eOp, eVar, eC, eCall, eFn, aCons, aNil, List.getElem?_cons_zero, List.getElem?_cons_succ, List.set_cons_zero, List.set_cons_succ, R.bind_ok, gInt1, gMod_int (show (0 : Int) < 64 by decide), g1, gDiv_int (show (0 : Int) < 64 by decide) (show (64 : Int).natAbs.log2 < 9000 by decide), gMul_bd b31 bq (by decide) (by decide) (by decide), gAdd_int, List.length_cons, List.length_nil, if_true, mx1, mx2, gMod_int h0]
  have fin : ∀ (ρ3 ρ4 ρ5 : Option D) , ∃ v S', (match (match sIf (tOf (eOp (gEqD true) (eDGet (eVar 0) (eC (.str "great"))) (eLst aNil)))
      (sSeq (sSet 3 (eDGet (eVar 0) (eC (.str "great"))))
      (sSeq (sSet 4 (eOp gMod (eCall gInt1 (aCons (eVar 2) aNil)) (eCall gLen (aCons (eVar 3) aNil))))
      (sSeq (sSet 5 (eOp gIx (eVar 3) (eVar 4)))
      (sIf (tOf (eOp gGt (eVar 5) (eC (.int 0))))
      (sSeq (sPut (eOp gDiv (eVar 5) (eVar 1)) (eVar 3) (eVar 4))
      (sRet (eOp gMod (eCall gInt1 (aCons (eVar 5) aNil)) (eVar 1))))
      sNil)))) sNil [some (.ob n), some (.int limit), some (.int k), none, none, none] S1 with
      | .nx ρ' S' => sSeq (sSet 3 (eDGet (eVar 0) (eC (.str "cells")))) (sRet (eOp gMod (eCall gInt1 (aCons (eFn 2 fn__law_mixed (aCons (eFn 2 fn__law_mixed (aCons (eOp gAdd (eOp gIx (eVar 3) (eOp gMod (eCall gInt1 (aCons (eVar 2) aNil)) (eC (.int 64)))) (eOp gMul (eC (.int 31)) (eOp gDiv (eVar 2) (eC (.int 64))))) (aCons (eVar 2) aNil))) (aCons (eOp gAdd (eVar 2) (eC (.int 7))) aNil))) aNil)) (eVar 1))) ρ' S'
      | r => r) with
      | .nx _ S' => R.ok D.non S'
      | .rt d S' => .ok d S'
      | .exc c fs _ S' => .exc c fs S'
      | _ => .bad) = .ok (.int v) S' ∧ 0 ≤ v ∧ v < limit ∧ Mst n c g (B + 1) S' ∧ Keep n g S S' := by
    intro _ _ _
    rw [sIf_of e3]
    by_cases hgs : gs = []
    · rw [decide_eq_true hgs]
      simp only [Bool.not_true, Bool.false_eq_true, if_false, sNil]
      obtain ⟨v, hv, v0, v1⟩ := tailR none none none
      rw [hv]
      exact ⟨v, S2, rfl, v0, v1, mst2, kp2⟩
    · rw [decide_eq_false hgs]
      simp only [Bool.not_false, if_true]
      have q1 : eDGet (eVar 0) (eC (.str "great")) [some (.ob n), some (.int limit), some (.int k), none, none, none] S2 = .ok (.ob g) S2 := eDGet_of rfl rfl hn2 rfl (dVal_g _ _ _)
      have lpos : 0 < (gs.length : Int) := by
        have := List.length_pos_iff.mpr hgs
        omega
      have m0 : 0 ≤ k % (gs.length : Int) := Int.emod_nonneg _ (by omega)
      have m1 : k % (gs.length : Int) < gs.length := Int.emod_lt_of_pos _ lpos
      have gl : gLen [.ob g] S2 = .ok (.int gs.length) S2 := by
        simp only [gLen, asQ, asL, hg2, List.length_map]
      have g1 := gIx_lst (xs := gs) hg2 m0 m1
      have hA : sSeq (sSet 3 (eDGet (eVar 0) (eC (.str "great"))))
          (sSeq (sSet 4 (eOp gMod (eCall gInt1 (aCons (eVar 2) aNil)) (eCall gLen (aCons (eVar 3) aNil))))
          (sSeq (sSet 5 (eOp gIx (eVar 3) (eVar 4)))
          (sIf (tOf (eOp gGt (eVar 5) (eC (.int 0))))
          (sSeq (sPut (eOp gDiv (eVar 5) (eVar 1)) (eVar 3) (eVar 4))
          (sRet (eOp gMod (eCall gInt1 (aCons (eVar 5) aNil)) (eVar 1))))
          sNil))) [some (.ob n), some (.int limit), some (.int k), none, none, none] S2 =
          (if 0 < gs.getD (k % (gs.length : Int)).toNat 0 then .rt (.int (gs.getD (k % (gs.length : Int)).toNat 0 % limit)) (S2.set g (.lst ((gs.set (k % (gs.length : Int)).toNat (gs.getD (k % (gs.length : Int)).toNat 0 / limit)).map D.int)))
           else .nx [some (.ob n), some (.int limit), some (.int k), some (.ob g), some (.int (k % (gs.length : Int))), some (.int (gs.getD (k % (gs.length : Int)).toNat 0))] S2) := by
        generalize gs.getD (k % (gs.length : Int)).toNat 0 = cell at g1
        rw [sSeq_nx (sSet_of q1)]
        simp only [List.set_cons_succ, List.set_cons_zero]
        rw [sSeq_nx (sSet_of (d := .int (k % (gs.length : Int))) (S1 := S2) (by simp only [eOp, eVar, eCall, aCons, aNil, List.getElem?_cons_zero, List.getElem?_cons_succ, R.bind_ok, gInt1, gl, gMod_int lpos]))]
        simp only [List.set_cons_succ, List.set_cons_zero]
        rw [sSeq_nx (sSet_of (d := .int cell) (S1 := S2) (by simp only [eOp, eVar, List.getElem?_cons_zero, List.getElem?_cons_succ, R.bind_ok, g1]))]
        simp only [List.set_cons_succ, List.set_cons_zero]
        rw [sIf_of (k := decide (0 < cell)) (S1 := S2) (by simp only [tOf, eOp, eVar, eC, List.getElem?_cons_zero, List.getElem?_cons_succ, R.bind_ok, gGt, gCmp])]
        by_cases hc : 0 < cell
        · rw [decide_eq_true hc, if_pos hc, if_pos rfl]
          rw [sSeq_nx (sPut_lst (k := k % (gs.length : Int)) (d := .int (cell / limit)) (n := g) (xs := gs.map D.int) (S1 := S2) (S2 := S2) (S3 := S2) (by simp only [eOp, eVar, List.getElem?_cons_zero, List.getElem?_cons_succ, R.bind_ok, gDiv_int h0 (by omega)]) (by simp only [eVar, List.getElem?_cons_zero, List.getElem?_cons_succ]) (by simp only [eVar, List.getElem?_cons_zero, List.getElem?_cons_succ]) hg2 m0 (by simpa using m1))]
          rw [sRet_of (d := .int (cell % limit)) (S1 := S2.set g (.lst ((gs.map D.int).set (k % (gs.length : Int)).toNat (.int (cell / limit))))) (by simp only [eOp, eVar, eCall, aCons, aNil, gInt1, List.getElem?_cons_zero, List.getElem?_cons_succ, R.bind_ok, gMod_int h0])]
          rw [List.map_set]
        · rw [decide_eq_false hc, if_neg hc]
          rfl
      rw [hA]
      generalize gs.getD (k % (gs.length : Int)).toNat 0 = cell
      by_cases hc : 0 < cell
      · rw [if_pos hc]
        have lg2 : g < S2.length := by omega
        refine ⟨cell % limit, _, rfl, Int.emod_nonneg _ (by omega), Int.emod_lt_of_pos _ h0, ⟨nc, ng, cg, k + 1, xs, _, ?_, ?_, List.getElem?_set_self lg2, fx, by omega, by omega⟩, ⟨by rw [List.length_set]; omega, fun i h1 h2 h3 => ?_⟩⟩
        · rw [List.getElem?_set_ne (Ne.symm ng)]; exact hn2
        · rw [List.getElem?_set_ne (Ne.symm cg)]; exact hc2
        · rw [List.getElem?_set_ne (Ne.symm h2)]; exact ot2 i h1 h3
      · rw [if_neg hc]
        simp only
        obtain ⟨v, hv, v0, v1⟩ := tailR (some (.int (k % (gs.length : Int)))) (some (.int cell)) (some (.ob g))
        rw [hv]
        exact ⟨v, S2, rfl, v0, v1, mst2, kp2⟩
  have hh := fin none none none
  rw [sSeq_nx (sSet_of e1)]
  simp only [List.set_cons_succ, List.set_cons_zero]
  rw [sSeq_nx e2]
  exact hh
end Z

set_option Elab.async false
set_option linter.all false
set_option maxRecDepth 100000
set_option maxHeartbeats 1000000
namespace Z
local instance : Tabs := ⟨[]⟩
open PySem L2
theorem aCons_of {f : EF} {g : AF} {ρ : Rho} {S S1 S2 : Store} {x : D} {xs : List D} (h1 : f ρ S = .ok x S1) (h2 : g ρ S1 = .ok xs S2) : aCons f g ρ S = .ok (x :: xs) S2 := by unfold aCons; rw [h1]; simp only [R.bind_ok]; rw [h2]; rfl
theorem eFn_of {n : Nat} {fn : Fn} {f : AF} {ρ : Rho} {S S1 : Store} {xs : List D} (h1 : f ρ S = .ok xs S1) (h2 : xs.length = n) : eFn n fn f ρ S = fn xs S1 := by unfold eFn; rw [h1]; simp only [R.bind_ok]; rw [if_pos h2]
theorem eOp_of {g : D → D → Store → R D} {fa fb : EF} {ρ : Rho} {S S1 S2 : Store} {x y : D} (h : fa ρ S = .ok x S1) (k : fb ρ S1 = .ok y S2) : eOp g fa fb ρ S = g x y S2 := by unfold eOp; rw [h]; simp only [R.bind_ok]; rw [k]; rfl
theorem runDef_rt {N : Nat} {g : SF} {ds : List D} {S S' : Store} {ρ : Rho} {d : D} (h : ds.map some ++ List.replicate (N - ds.length) none = ρ) (e : g ρ S = .rt d S') : runDef N g ds S = .ok d S' := by unfold runDef; rw [h, e]
/-- one of some things -/
theorem law_of_ok {n c g : Nat} {B : Int} {S : Store} (m : Mst n c g B S) (hB : B < 2 ^ 60) {l : Nat} {ds : List D} (hl : S[l]? = some (.lst ds)) (ln : l ≠ n) (lg : l ≠ g) (ne : ds ≠ []) (hlen : ds.length < 1000) : ∃ d S', fn__law_of [.ob n, .ob l] S = .ok d S' ∧ d ∈ ds ∧ Mst n c g (B + 1) S' ∧ Keep n g S S' := by
  have lpos : 0 < (ds.length : Int) := by
    have := List.length_pos_iff.mpr ne
    omega
  have ll : l < S.length := (List.getElem?_eq_some_iff.mp hl).1
  obtain ⟨v, S', e, v0, v1, m', kp⟩ := law_draw_ok m hB lpos (Bd.mono (a := 10) (Bd.of (by omega) (by omega)) (by decide))
  have hl' : S'[l]? = some (.lst ds) := by rw [kp.at' l ln lg ll]; exact hl
  have hv : v.toNat < ds.length := by omega
  have gx : gIx (.ob l) (.int v) S' = .ok ds[v.toNat] S' := by
    show (match asL S' (.ob l) with
      | some ys => (match dAt ys v with
        | some d => R.ok d S'
        | none => .bad)
      | none => .bad) = _
    have ea : asL S' (.ob l) = some ds := by simp only [asL, hl']
    rw [ea]
    have : dAt ds v = some ds[v.toNat] := by rw [dAt_nat _ v0 v1, List.getElem?_eq_getElem hv]
    simp only [this]
  refine ⟨ds[v.toNat], S', ?_, List.getElem_mem hv, m', kp⟩
  unfold fn__law_of body__law_of
  refine runDef_rt (ρ := [some (.ob n), some (.ob l)]) rfl (sRet_of ?_)
  have gl : gLen [.ob l] S = .ok (.int ds.length) S := by simp only [gLen, asQ, asL, hl]
  rw [eOp_of (x := .ob l) (y := .int v) (S1 := S) (S2 := S') rfl ?_]
  · exact gx
  · rw [eFn_of (n := 2) (xs := [.ob n, .int ds.length]) (S1 := S) ?_ rfl]
    · exact e
    · refine aCons_of (S1 := S) rfl (aCons_of (S1 := S) ?_ rfl)
      simp only [eCall, aCons, aNil, eVar, List.getElem?_cons_zero, List.getElem?_cons_succ, R.bind_ok, gl]
/-- a number of at most a size -/
theorem law_three_number_ok {n c g : Nat} {B : Int} {S : Store} (m : Mst n c g B S) (hB : B < 2 ^ 60) {most : Int} (h0 : 0 ≤ most) (h1 : most ≤ 10 ^ 30) : ∃ v S', fn__law_three_number [.ob n, .int most] S = .ok (.int v) S' ∧ -most ≤ v ∧ v ≤ most ∧ Mst n c g (B + 1) S' ∧ Keep n g S S' := by
  have b2 : Bd 2 2 := Bd.of (by decide) (by decide)
  have bm : Bd 100 most := Bd.of (by omega) (by omega)
  obtain ⟨v, S', e, v0, v1, m', kp⟩ := law_draw_ok m hB (limit := 2 * most + 1) (by omega) (Bd.mono (a := 110) (Bd.of (by omega) (by omega)) (by decide))
  refine ⟨v - most, S', ?_, by omega, by omega, m', kp⟩
  unfold fn__law_three_number body__law_three_number
  refine runDef_rt (ρ := [some (.ob n), some (.int most)]) rfl (sRet_of ?_)
  rw [eOp_of (x := .int v) (y := .int most) (S1 := S') (S2 := S') ?_ rfl]
  · rfl
  · rw [eFn_of (n := 2) (xs := [.ob n, .int (2 * most + 1)]) (S1 := S) ?_ rfl]
    · exact e
    · refine aCons_of (S1 := S) rfl (aCons_of (S1 := S) ?_ rfl)
      simp only [eOp, eVar, eC, List.getElem?_cons_zero, List.getElem?_cons_succ, R.bind_ok, gMul_bd b2 bm (by decide) (by decide) (by decide), gAdd_int]
/-- a comprehension whose items change the draws' state -/
theorem lcLoop_mst {gg : GF} {te : EF} {ρ0 : Rho} {n c g : Nat} {P : D → Prop} : ∀ (items acc : List D) (B : Int) (S : Store), Mst n c g B S → B + items.length < 2 ^ 60 → acc.length + items.length ≤ LIM → (∀ x ∈ acc, P x) →
    (∀ x ∈ items, ∃ ρ1, gg x ρ0 = some ρ1 ∧ ∀ (B : Int) (S : Store), Mst n c g B S → B < 2 ^ 60 → ∃ d S', te ρ1 S = .ok d S' ∧ P d ∧ Mst n c g (B + 1) S' ∧ Keep n g S S') →
    ∃ ys S', lcLoop gg tAll te noChk ρ0 items acc S = .ok ys S' ∧ ys.length = acc.length + items.length ∧ (∀ x ∈ ys, P x) ∧ Mst n c g (B + items.length) S' ∧ Keep n g S S'
  | [], acc, B, S, m, hB, hl, ha, h => by
    refine ⟨acc, S, by unfold lcLoop; rfl, by simp, ha, by simpa using m, .refl _ _ _⟩
  | x :: xs, acc, B, S, m, hB, hl, ha, h => by
    simp only [List.length_cons] at hB hl ⊢
    obtain ⟨ρ1, h1, h2⟩ := h x List.mem_cons_self
    obtain ⟨d, S1, e1, pd, m1, k1⟩ := h2 B S m (by omega)
    obtain ⟨ys, S', e2, l2, p2, m2, k2⟩ := lcLoop_mst xs (acc ++ [d]) (B + 1) S1 m1 (by omega) (by simp; omega) (fun y hy => by
      rcases List.mem_append.mp hy with q | q
      · exact ha y q
      · rw [List.mem_singleton.mp q]; exact pd) fun y hy => h y (List.mem_cons_of_mem _ hy)
    refine ⟨ys, S', ?_, by rw [l2]; simp; omega, p2, m2.mono (by push_cast; omega), k1.trans k2⟩
    unfold lcLoop
    rw [if_pos (show noChk S = true from rfl)]
    simp only [h1, tAll, if_true, e1]
    rw [if_pos (by omega)]
    exact e2
def Grow (S S' : Store) : Prop := ∃ T, S' = S ++ T
theorem Grow.refl (S : Store) : Grow S S := ⟨[], by simp⟩
theorem Grow.one (S : Store) (o : O) : Grow S (S ++ [o]) := ⟨[o], rfl⟩
theorem Grow.trans {S S1 S2 : Store} (a : Grow S S1) (b : Grow S1 S2) : Grow S S2 := by
  obtain ⟨T, rfl⟩ := a
  obtain ⟨U, rfl⟩ := b
  exact ⟨T ++ U, by simp⟩
theorem Grow.keep {S S' : Store} (a : Grow S S') (n g : Nat) : Keep n g S S' := by
  obtain ⟨T, rfl⟩ := a
  exact .grow n g S T
theorem Grow.mst {S S' : Store} (a : Grow S S') {n c g : Nat} {B : Int} (m : Mst n c g B S) : Mst n c g B S' := by
  obtain ⟨T, rfl⟩ := a
  exact m.grow T
theorem Grow.get {S S' : Store} (a : Grow S S') {i : Nat} {o : O} (h : S[i]? = some o) : S'[i]? = some o := by
  obtain ⟨T, rfl⟩ := a
  rw [List.getElem?_append_left (List.getElem?_eq_some_iff.mp h).1]; exact h
theorem intsD_of : ∀ ns : List Int, intsD (ns.map D.int) = some ns
  | [] => rfl
  | n :: ns => by simp only [List.map_cons, intsD, intsD_of ns, Option.map]
/-- a list of new pairs, walked -/
theorem lc_zip {fa : AF} {a b : D} {xs ys : List Int} {ρ ρ0 : Rho} {S : Store} {vs : List Nat} {gg : GF} {te : EF} {f : Int → Int → Int} (hf : fa ρ S = .ok [a, b] S) (ha : asQ S a = some (xs.map D.int)) (hb : asQ S b = some (ys.map D.int)) (hl : xs.length ≤ 1000)
    (he : ∀ x y S', (x, y) ∈ xs.zip ys → ∃ ρ1, gg (.tup [.int x, .int y]) (wipeD ρ vs) = some ρ1 ∧ te ρ1 S' = .ok (.int (f x y)) S') :
    ∃ k S', eLC (iLst (eLZip fa)) vs gg tAll te ρ S = .ok (.ob k) S' ∧ S'[k]? = some (.lst (((xs.zip ys).map fun p => f p.1 p.2).map D.int)) ∧ Grow S S' := by
  have hz : (xs.map D.int).zip (ys.map D.int) = (xs.zip ys).map fun p => (D.int p.1, D.int p.2) := by
    rw [List.zip_map]; rfl
  let zs : List D := (xs.zip ys).map fun p => D.tup [.int p.1, .int p.2]
  have e1 : iLst (eLZip fa) ρ S = .ok (zs, chkL (.ob S.length) zs) (S ++ [.lst zs]) := by
    unfold iLst eLZip
    rw [hf]; simp only [R.bind_ok, ha, hb, newL, hz, List.map_map]
    have : asL (S ++ [O.lst (List.map ((fun p => D.tup [p.fst, p.snd]) ∘ fun p => (D.int p.fst, D.int p.snd)) (xs.zip ys))]) (.ob S.length) = some zs := by
      simp only [asL, at_last]
      rfl
    rw [this]
    rfl
  refine ⟨S.length + 1, S ++ [.lst zs] ++ [.lst (((xs.zip ys).map fun p => f p.1 p.2).map D.int)], ?_, by simp, (Grow.one _ _).trans (Grow.one _ _)⟩
  unfold eLC
  rw [e1]; simp only [R.bind_ok]
  have lz : zs.length ≤ 1000 := by
    show ((xs.zip ys).map _).length ≤ 1000
    rw [List.length_map, List.length_zip]
    omega
  rw [lcLoop_pure (f := fun d => match d with | .tup [.int x, .int y] => .int (f x y) | d => d) (by rw [chkL_ok]; simp only [asL, at_last]) _ _ (by have : LIM = 16777216 := rfl; simp; omega)]
  · simp only [R.bind_ok, newL, List.nil_append]
    have : zs.map (fun d => match d with | .tup [.int x, .int y] => D.int (f x y) | d => d) = ((xs.zip ys).map fun p => f p.1 p.2).map D.int := by
      show ((xs.zip ys).map fun p => D.tup [.int p.1, .int p.2]).map _ = _
      rw [List.map_map, List.map_map]
      rfl
    rw [this]
    simp
  · intro x hx
    obtain ⟨p, hp, rfl⟩ := List.mem_map.mp hx
    obtain ⟨ρ1, h1, h2⟩ := he p.1 p.2 (S ++ [.lst zs]) hp
    exact ⟨ρ1, h1, h2⟩
def dotZ (xs ys : List Int) : Int := ((xs.zip ys).map fun p => p.1 * p.2).sum
theorem law_three_dot_ok {a b : D} {xs ys : List Int} {S : Store} (ha : asQ S a = some (xs.map D.int)) (hb : asQ S b = some (ys.map D.int)) (hl : xs.length ≤ 1000) (hx : ∀ x ∈ xs, Bd 400000 x) (hy : ∀ y ∈ ys, Bd 400000 y) :
    ∃ S', fn__law_three_dot [a, b] S = .ok (.int (dotZ xs ys)) S' ∧ Grow S S' := by
  obtain ⟨k, S', e, hk, g⟩ := lc_zip (fa := aCons (eVar 0) (aCons (eVar 1) aNil)) (ρ := [some a, some b, none, none]) (vs := [2, 3]) (gg := gTupD 2 (gsCons (gN 2) (gsCons (gN 3) gsNil))) (te := eOp gMul (eVar 2) (eVar 3)) (f := fun x y => x * y) (ρ0 := []) rfl ha hb hl fun x y S' h => by
    have hm := List.of_mem_zip h
    exact ⟨[some a, some b, some (.int x), some (.int y)], rfl, gMul_bd (hx x hm.1) (hy y hm.2) (by decide) (by decide) (by decide) S'⟩
  refine ⟨S', ?_, g⟩
  unfold fn__law_three_dot body__law_three_dot
  refine runDef_rt (ρ := [some a, some b, none, none]) rfl (sRet_of ?_)
  unfold eCall aCons aNil
  unfold aCons aNil at e
  rw [e]; simp only [R.bind_ok, gSum, asL, hk, intsD_of]
  rfl
def plusZ (xs : List Int) (t : Int) (ys : List Int) : List Int := (xs.zip ys).map fun p => p.1 + t * p.2
theorem law_three_plus_ok {a b : D} {xs ys : List Int} {t : Int} {S : Store} (ha : asQ S a = some (xs.map D.int)) (hb : asQ S b = some (ys.map D.int)) (hl : xs.length ≤ 1000) (ht : Bd 400000 t) (hy : ∀ y ∈ ys, Bd 400000 y) :
    ∃ S', fn__law_three_plus [a, .int t, b] S = .ok (.tup ((plusZ xs t ys).map D.int)) S' ∧ Grow S S' := by
  obtain ⟨k, S', e, hk, g⟩ := lc_zip (fa := aCons (eVar 0) (aCons (eVar 2) aNil)) (ρ := [some a, some (.int t), some b, none, none]) (vs := [3, 4]) (gg := gTupD 2 (gsCons (gN 3) (gsCons (gN 4) gsNil))) (te := eOp gAdd (eVar 3) (eOp gMul (eVar 1) (eVar 4))) (f := fun x y => x + t * y) (ρ0 := []) rfl ha hb hl fun x y S' h => by
    have hm := List.of_mem_zip h
    refine ⟨[some a, some (.int t), some b, some (.int x), some (.int y)], rfl, ?_⟩
    rw [eOp_of (x := .int x) (y := .int (t * y)) (S1 := S') (S2 := S') rfl (by
      rw [eOp_of (x := .int t) (y := .int y) (S1 := S') (S2 := S') rfl rfl]
      exact gMul_bd ht (hy y hm.2) (by decide) (by decide) (by decide) S')]
    rfl
  refine ⟨S', ?_, g⟩
  unfold fn__law_three_plus body__law_three_plus
  refine runDef_rt (ρ := [some a, some (.int t), some b, none, none]) rfl (sRet_of ?_)
  unfold eCall aCons aNil
  unfold aCons aNil at e
  rw [e]; simp only [R.bind_ok, gTupOf, asL, hk]
  rfl
def crossZ (a b : Int × Int × Int) : Int × Int × Int := (a.2.1 * b.2.2 - a.2.2 * b.2.1, a.2.2 * b.1 - a.1 * b.2.2, a.1 * b.2.1 - a.2.1 * b.1)
def t3 (a : Int × Int × Int) : D := .tup [.int a.1, .int a.2.1, .int a.2.2]
theorem law_three_cross_ok {a b : Int × Int × Int} {S : Store} (ha : Bd 400000 a.1 ∧ Bd 400000 a.2.1 ∧ Bd 400000 a.2.2) (hb : Bd 400000 b.1 ∧ Bd 400000 b.2.1 ∧ Bd 400000 b.2.2) :
    ∃ S', fn__law_three_cross [t3 a, t3 b] S = .ok (t3 (crossZ a b)) S' ∧ Grow S S' := by
  obtain ⟨a0, a1, a2⟩ := a
  obtain ⟨b0, b1, b2⟩ := b
  obtain ⟨A0, A1, A2⟩ := ha
  obtain ⟨B0, B1, B2⟩ := hb
  dsimp only at A0 A1 A2 B0 B1 B2
  refine ⟨S ++ [.lst [.int (a1 * b2 - a2 * b1), .int (a2 * b0 - a0 * b2), .int (a0 * b1 - a1 * b0)]], ?_, .one _ _⟩
  unfold fn__law_three_cross body__law_three_cross
  refine runDef_rt (ρ := [some (t3 (a0, a1, a2)), some (t3 (b0, b1, b2)), none, none]) rfl ?_
  rw [sSeq_nx (sSet_of (d := .ob S.length) (S1 := S ++ [.lst []]) rfl)]
  simp only [List.set_cons_succ, List.set_cons_zero]
  let bd : SF := sExpr (eApp (eVar 2) (aCons (eOp gSub (eOp gMul (eOp gIx (eVar 0) (eOp gMod (eOp gAdd (eVar 3) (eC (.int 1))) (eC (.int 3)))) (eOp gIx (eVar 1) (eOp gMod (eOp gAdd (eVar 3) (eC (.int 2))) (eC (.int 3))))) (eOp gMul (eOp gIx (eVar 0) (eOp gMod (eOp gAdd (eVar 3) (eC (.int 2))) (eC (.int 3)))) (eOp gIx (eVar 1) (eOp gMod (eOp gAdd (eVar 3) (eC (.int 1))) (eC (.int 3)))))) aNil))
  have turn : ∀ (i : Int) (p q r s : Int) (xs : List D), xs.length < 100 → Bd 400000 p → Bd 400000 q → Bd 400000 r → Bd 400000 s →
      (∀ S', gIx (t3 (a0, a1, a2)) (.int ((i + 1) % 3)) S' = .ok (.int p) S') → (∀ S', gIx (t3 (b0, b1, b2)) (.int ((i + 2) % 3)) S' = .ok (.int q) S') → (∀ S', gIx (t3 (a0, a1, a2)) (.int ((i + 2) % 3)) S' = .ok (.int r) S') → (∀ S', gIx (t3 (b0, b1, b2)) (.int ((i + 1) % 3)) S' = .ok (.int s) S') →
      bd [some (t3 (a0, a1, a2)), some (t3 (b0, b1, b2)), some (.ob S.length), some (.int i)] (S ++ [.lst xs]) = .nx [some (t3 (a0, a1, a2)), some (t3 (b0, b1, b2)), some (.ob S.length), some (.int i)] (S ++ [.lst (xs ++ [.int (p * q - r * s)])]) := by
    intro i p q r s xs hx P Q R' T g1 g2 g3 g4
    show sExpr _ _ _ = _
    unfold sExpr eApp
    simp only [eVar, List.getElem?_cons_zero, List.getElem?_cons_succ, R.bind_ok, asL, at_last, aCons, aNil, eOp, eC, gAdd_int, gMod_int (show (0 : Int) < 3 by decide), g1, g2, g3, g4, gMul_bd P Q (by decide) (by decide) (by decide), gMul_bd R' T (by decide) (by decide) (by decide), gSub_int]
    rw [if_pos (by have : LIM = 16777216 := rfl; omega)]
    simp only [R.to_ok, set_last]
  have hf : sFor (iR1 (aCons (eC (.int 3)) aNil)) (gN 3) bd [some (t3 (a0, a1, a2)), some (t3 (b0, b1, b2)), some (.ob S.length), none] (S ++ [.lst []]) = .nx [some (t3 (a0, a1, a2)), some (t3 (b0, b1, b2)), some (.ob S.length), some (.int 2)] (S ++ [.lst [.int (a1 * b2 - a2 * b1), .int (a2 * b0 - a0 * b2), .int (a0 * b1 - a1 * b0)]]) := by
    unfold sFor
    have e : iR1 (aCons (eC (.int 3)) aNil) [some (t3 (a0, a1, a2)), some (t3 (b0, b1, b2)), some (.ob S.length), none] (S ++ [.lst []]) = .ok ([.int 0, .int 1, .int 2], noChk) (S ++ [.lst []]) := rfl
    rw [e]; simp only [R.to_ok]
    have t0 := turn 0 a1 b2 a2 b1 [] (by decide) A1 B2 A2 B1 (fun _ => rfl) (fun _ => rfl) (fun _ => rfl) (fun _ => rfl)
    have t1 := turn 1 a2 b0 a0 b2 [.int (a1 * b2 - a2 * b1)] (by show 1 < 100; decide) A2 B0 A0 B2 (fun _ => rfl) (fun _ => rfl) (fun _ => rfl) (fun _ => rfl)
    have t2 := turn 2 a0 b1 a1 b0 [.int (a1 * b2 - a2 * b1), .int (a2 * b0 - a0 * b2)] (by show 2 < 100; decide) A0 B1 A1 B0 (fun _ => rfl) (fun _ => rfl) (fun _ => rfl) (fun _ => rfl)
    simp only [loop, noChk, if_true, gN, List.set_cons_succ, List.set_cons_zero, t0, t1, t2, List.nil_append, List.cons_append]
  rw [sSeq_nx hf]
  refine sRet_of ?_
  simp only [eCall, aCons, aNil, eVar, List.getElem?_cons_zero, List.getElem?_cons_succ, R.bind_ok, gTupOf, asL, at_last]
  rfl
end Z

set_option Elab.async false
set_option linter.all false
set_option maxRecDepth 100000
set_option maxHeartbeats 1000000
namespace Z
local instance : Tabs := ⟨[]⟩
open PySem L2
theorem shaped_int (i : Int) : SeqAt.shaped (.int i) = true := by
  unfold SeqAt.shaped
  simp only [PyData.canLay0, PyData.depth]
  rfl
theorem eq_ints' {neg : Bool} (i j : Int) (S : Store) : gEqD neg (.int i) (.int j) S = .ok (.bl (if neg = true then !decide (i = j) else decide (i = j))) S := by
  show gEqP neg (.int i) (.int j) S = _
  unfold gEqP
  rw [pyD_int, pyD_int]
  simp only
  rw [if_pos ⟨shaped_int i, shaped_int j⟩]
  simp only [PyData.eqv]
  have : (i == j) = decide (i = j) := by
    by_cases h : i = j
    · subst h; simp
    · simp [h]
  rw [this]
abbrev gcdBody : SF := sSeq (sIf (tOf (eOp (gEqD false) (eVar 1) (eC (.int 0)))) sBreak sNil) (sPar 0 1 (aCons (eVar 1) (aCons (eOp gMod (eCall gInt1 (aCons (eVar 0) aNil)) (eVar 1)) aNil)))
theorem gcd_break (a : Int) (t : Option D) (S : Store) : gcdBody [some (.int a), some (.int 0), t] S = .bk [some (.int a), some (.int 0), t] S := by
  have e : tOf (eOp (gEqD false) (eVar 1) (eC (.int 0))) [some (.int a), some (.int 0), t] S = .ok true S := by
    simp only [tOf, eOp, eVar, eC, List.getElem?_cons_zero, List.getElem?_cons_succ, R.bind_ok, eq_ints']
    rfl
  unfold gcdBody sSeq
  rw [sIf_of e, if_pos rfl]
  rfl
theorem gcd_step (a b : Int) (hb : 0 < b) (t : Option D) (S : Store) : gcdBody [some (.int a), some (.int b), t] S = .nx [some (.int b), some (.int (a % b)), t] S := by
  have e : tOf (eOp (gEqD false) (eVar 1) (eC (.int 0))) [some (.int a), some (.int b), t] S = .ok false S := by
    simp only [tOf, eOp, eVar, eC, List.getElem?_cons_zero, List.getElem?_cons_succ, R.bind_ok, eq_ints']
    rw [decide_eq_false (by omega)]
    rfl
  unfold gcdBody
  rw [sSeq_nx (by rw [sIf_of e, if_neg Bool.false_ne_true]; rfl)]
  unfold sPar
  rw [aCons_of (x := .int b) (xs := [.int (a % b)]) (S1 := S) (S2 := S) rfl (aCons_of (S1 := S) (by simp only [eOp, eCall, aCons, aNil, eVar, List.getElem?_cons_zero, List.getElem?_cons_succ, R.bind_ok, gInt1, gMod_int hb]) rfl)]
  rfl
theorem gcd_loop (S : Store) : ∀ (k : Nat) (items : List D) (a b : Nat) (t : Option D), b < 2 ^ k → 2 * k + 1 ≤ items.length → ∃ t', loop (gN 2) noChk gcdBody items [some (.int (a : Nat)), some (.int (b : Nat)), t] S = .nx [some (.int (Nat.gcd a b : Nat)), some (.int 0), t'] S
  | k, [], a, b, t, hb, hl => by simp at hl
  | k, x :: items, a, b, t, hb, hl => by
    unfold loop
    rw [if_pos (show noChk S = true from rfl)]
    simp only [gN, List.set_cons_succ, List.set_cons_zero]
    by_cases b0 : b = 0
    · subst b0
      have e := gcd_break (a : Nat) (some x) S
      simp only [Int.ofNat_eq_natCast, Int.natCast_zero, Nat.gcd_zero_right] at e ⊢
      rw [e]
      exact ⟨some x, rfl⟩
    · have bpos : (0 : Int) < (b : Nat) := by omega
      rw [gcd_step (a : Nat) (b : Nat) bpos (some x) S]
      simp only
      have em : ((a : Nat) : Int) % ((b : Nat) : Int) = ((a % b : Nat) : Int) := (Int.natCast_emod a b).symm
      rw [em]
      cases k with
      | zero => exact absurd hb (by rw [Nat.pow_zero]; omega)
      | succ k =>
        cases items with
        | nil => simp at hl
        | cons y items =>
          unfold loop
          rw [if_pos (show noChk S = true from rfl)]
          simp only [gN, List.set_cons_succ, List.set_cons_zero]
          have g1 : Nat.gcd a b = Nat.gcd b (a % b) := by rw [Nat.gcd_comm a b, Nat.gcd_rec b a, Nat.gcd_comm]
          by_cases r0 : a % b = 0
          · rw [r0]
            have e := gcd_break (b : Nat) (some y) S
            simp only [Int.natCast_zero] at e ⊢
            rw [e, g1, r0, Nat.gcd_zero_right]
            exact ⟨some y, rfl⟩
          · have rpos : (0 : Int) < (a % b : Nat) := by omega
            rw [gcd_step (b : Nat) (a % b : Nat) rpos (some y) S]
            simp only
            have em2 : ((b : Nat) : Int) % ((a % b : Nat) : Int) = ((b % (a % b) : Nat) : Int) := (Int.natCast_emod b (a % b)).symm
            rw [em2]
            have lt : a % b < b := Nat.mod_lt _ (by omega)
            have lt2 : b % (a % b) < a % b := Nat.mod_lt _ (by omega)
            have le : a % b + b % (a % b) ≤ b := by
              have := Nat.div_add_mod b (a % b)
              have h1 : 1 ≤ b / (a % b) := Nat.div_pos (Nat.le_of_lt lt) (by omega)
              have h2 : a % b * 1 ≤ a % b * (b / (a % b)) := Nat.mul_le_mul_left _ h1
              omega
            obtain ⟨t', e⟩ := gcd_loop S k items (a % b) (b % (a % b)) (some y) (by rw [Nat.pow_succ] at hb; omega) (by simp at hl; omega)
            refine ⟨t', ?_⟩
            rw [e, g1]
            have g2 : Nat.gcd b (a % b) = Nat.gcd (a % b) (b % (a % b)) := by rw [Nat.gcd_comm b (a % b), Nat.gcd_rec (a % b) b, Nat.gcd_comm]
            rw [g2]
theorem law_four_gcd_ok (a b : Nat) (hb : b < 2 ^ 900) (S : Store) : fn__law_four_gcd [.int (a : Nat), .int (b : Nat)] S = .ok (.int (Nat.gcd a b : Nat)) S := by
  obtain ⟨t', e⟩ := gcd_loop S 900 (upFrom 0 2000) a b none hb (by rw [upFrom_length]; decide)
  unfold fn__law_four_gcd body__law_four_gcd
  refine runDef_rt (ρ := [some (.int (a : Nat)), some (.int (b : Nat)), none]) rfl ?_
  rw [sSeq_nx (ρ' := [some (.int (Nat.gcd a b : Nat)), some (.int 0), t']) (S' := S) ?_]
  · rfl
  · unfold sFor
    have q : iR1 (aCons (eC (.int 2000)) aNil) [some (.int (a : Nat)), some (.int (b : Nat)), none] S = .ok (upFrom 0 2000, noChk) S := rfl
    rw [q]; simp only [R.to_ok]
    exact e
def shareZ (xs : List Int) : Nat := xs.foldl (fun s x => Nat.gcd x.natAbs s) 0
def shortZ (xs : List Int) : List Int := if 1 < shareZ xs then xs.map fun x => x / (shareZ xs : Int) else xs
theorem abs_nat (x : Int) : (if x < 0 then -x else x) = (x.natAbs : Int) := by omega
theorem gcd_lt (x s : Nat) (k : Nat) (hx : x < 2 ^ k) (hs : s < 2 ^ k) : Nat.gcd x s < 2 ^ k := by
  by_cases h : x = 0
  · subst h; rw [Nat.gcd_zero_left]; exact hs
  · exact Nat.lt_of_le_of_lt (Nat.gcd_le_left s (Nat.pos_of_ne_zero h)) hx
theorem law_four_short_ok {a : D} {xs : List Int} {S : Store} (ha : asQ S a = some (xs.map D.int)) (hl : xs.length ≤ 1000) (hb : ∀ x ∈ xs, Bd 900 x) :
    ∃ k S', fn__law_four_short [a] S = .ok (.ob k) S' ∧ S'[k]? = some (.lst ((shortZ xs).map D.int)) ∧ Grow S S' := by
  obtain ⟨gd, hgd, it⟩ : ∃ gd : Store → Bool, gd S = true ∧ ∀ (r s : Option D), iSeq (eVar 0) [some a, r, s] S = .ok (xs.map D.int, gd) S := by
    by_cases z : ∃ zs, a = .tup zs
    · obtain ⟨zs, rfl⟩ := z
      have e : zs = xs.map D.int := Option.some.inj ha
      subst e
      exact ⟨noChk, rfl, fun r s => rfl⟩
    · have ha' : asL S a = some (xs.map D.int) := by cases a <;> first | exact ha | exact (z ⟨_, rfl⟩).elim
      refine ⟨chkL a (xs.map D.int), chkL_ok.mpr ha', fun r s => ?_⟩
      unfold iSeq
      simp only [eVar, List.getElem?_cons_zero, R.bind_ok]
      cases a <;> first | exact (z ⟨_, rfl⟩).elim | (simp only [ha'])
  have loopF : ∀ (ys : List Int) (s : Nat) (t : Option D), (∀ x ∈ ys, Bd 900 x) → s < 2 ^ 900 → ∃ t', loop (gN 2) gd (sSet 1 (eFn 2 fn__law_four_gcd (aCons (eCall gAbs (aCons (eVar 2) aNil)) (aCons (eVar 1) aNil)))) (ys.map D.int) [some a, some (.int (s : Nat)), t] S = .nx [some a, some (.int (ys.foldl (fun s x => Nat.gcd x.natAbs s) s : Nat)), t'] S ∧ ys.foldl (fun s x => Nat.gcd x.natAbs s) s < 2 ^ 900 := by
    intro ys
    induction ys with
    | nil =>
      intro s t _ hs
      refine ⟨t, ?_, hs⟩
      unfold loop
      rw [List.map_nil]
      simp only
      rw [if_pos hgd]
      rfl
    | cons y ys ih =>
      intro s t hy hs
      have y1 : y.natAbs < 2 ^ 900 := hy y List.mem_cons_self
      obtain ⟨t', e, lt⟩ := ih (Nat.gcd y.natAbs s) (some (.int y)) (fun x hx => hy x (List.mem_cons_of_mem _ hx)) (gcd_lt _ _ _ y1 hs)
      refine ⟨t', ?_, lt⟩
      rw [List.map_cons]
      unfold loop
      rw [if_pos hgd]
      simp only [gN, List.set_cons_succ, List.set_cons_zero]
      rw [sSet_of (d := .int (Nat.gcd y.natAbs s : Nat)) (S1 := S) ?_]
      · simp only [List.set_cons_succ, List.set_cons_zero, List.foldl_cons]
        exact e
      · rw [eFn_of (n := 2) (xs := [.int (y.natAbs : Nat), .int (s : Nat)]) (S1 := S) ?_ rfl]
        · exact law_four_gcd_ok y.natAbs s hs S
        · refine aCons_of (S1 := S) ?_ (aCons_of (S1 := S) rfl rfl)
          simp only [eCall, aCons, aNil, eVar, List.getElem?_cons_zero, List.getElem?_cons_succ, R.bind_ok, gAbs, abs_nat]
  obtain ⟨t', e, lt⟩ := loopF xs 0 none hb (Nat.pow_pos (by decide))
  have hsz : (shareZ xs) < 2 ^ 900 := lt
  have ret : ∃ k S', sRet (eIf (tOf (eOp gGt (eVar 1) (eC (.int 1)))) (eLC (iSeq (eVar 0)) [2] (gN 2) tAll (eOp gDiv (eVar 2) (eVar 1))) (eCall gListOf (aCons (eVar 0) aNil))) [some a, some (.int (shareZ xs : Nat)), t'] S = .rt (.ob k) S' ∧ S'[k]? = some (.lst ((shortZ xs).map D.int)) ∧ Grow S S' := by
    refine ⟨S.length, S ++ [.lst ((shortZ xs).map D.int)], sRet_of ?_, by simp, .one _ _⟩
    unfold eIf shortZ
    have et : tOf (eOp gGt (eVar 1) (eC (.int 1))) [some a, some (.int (shareZ xs : Nat)), t'] S = .ok (decide ((1 : Int) < (shareZ xs : Nat))) S := by
      simp only [tOf, eOp, eVar, eC, List.getElem?_cons_zero, List.getElem?_cons_succ, R.bind_ok, gGt, gCmp]
    rw [et]; simp only [R.bind_ok]
    by_cases h : 1 < shareZ xs
    · rw [decide_eq_true (by omega), if_pos rfl, if_pos h]
      unfold eLC
      rw [it]; simp only [R.bind_ok]
      rw [lcLoop_pure (f := fun d => match d with | .int x => .int (x / (shareZ xs : Int)) | d => d) hgd _ _ (by have : LIM = 16777216 := rfl; simp; omega)]
      · simp only [R.bind_ok, newL, List.nil_append, List.map_map]
        rfl
      · intro x hx
        obtain ⟨y, _, rfl⟩ := List.mem_map.mp hx
        refine ⟨[some a, some (.int (shareZ xs : Nat)), some (.int y)], rfl, ?_⟩
        rw [eOp_of (x := .int y) (y := .int (shareZ xs : Nat)) (S1 := S) (S2 := S) rfl rfl]
        have lg : ((shareZ xs : Nat) : Int).natAbs.log2 < 9000 := Nat.lt_of_lt_of_le (Bd.log (a := 900) (i := (shareZ xs : Nat)) (by unfold Bd; simpa using hsz) (by decide)) (by decide)
        exact gDiv_int (by omega) lg S
    · rw [decide_eq_false (by omega), if_neg Bool.false_ne_true, if_neg h]
      simp only [eCall, aCons, aNil, eVar, List.getElem?_cons_zero, R.bind_ok, gListOf, ha, newL]
  obtain ⟨k, S', er, hk, g⟩ := ret
  refine ⟨k, S', ?_, hk, g⟩
  unfold fn__law_four_short body__law_four_short
  refine runDef_rt (ρ := [some a, none, none]) rfl ?_
  rw [sSeq_nx (sSet_of (d := .int 0) (S1 := S) rfl)]
  simp only [List.set_cons_succ, List.set_cons_zero]
  rw [sSeq_nx (ρ' := [some a, some (.int (shareZ xs : Nat)), t']) (S' := S) ?_]
  · exact er
  · unfold sFor
    rw [it]; simp only [R.to_ok]
    exact e
end Z

set_option Elab.async false
set_option linter.all false
set_option maxRecDepth 100000
set_option maxHeartbeats 1000000
namespace Z
local instance : Tabs := ⟨[]⟩
open PySem L2
def In (r : Int) (d : D) : Prop := ∃ i : Int, d = .int i ∧ -r ≤ i ∧ i ≤ r
theorem three_of {r : Int} : ∀ {ys : List D}, ys.length = 3 → (∀ x ∈ ys, In r x) → ∃ a b c : Int, ys = [.int a, .int b, .int c] ∧ (-r ≤ a ∧ a ≤ r) ∧ (-r ≤ b ∧ b ≤ r) ∧ (-r ≤ c ∧ c ≤ r) := by
  intro ys hl h
  match ys, hl with
  | [x, y, z], _ =>
    obtain ⟨a, rfl, ha⟩ := h x (by simp)
    obtain ⟨b, rfl, hb⟩ := h y (by simp)
    obtain ⟨c, rfl, hc⟩ := h z (by simp)
    exact ⟨a, b, c, rfl, ha, hb, hc⟩
theorem law_four_place_ok {n c g : Nat} {B : Int} {S : Store} (m : Mst n c g B S) (hB : B + 3 < 2 ^ 60) {r : Int} (h0 : 0 ≤ r) (h1 : r ≤ 10 ^ 30) :
    ∃ (p : Int × Int × Int) (S' : Store), fn__law_four_place [.ob n, .int 6, .int r] S = .ok (t3 p) S' ∧ (-r ≤ p.1 ∧ p.1 ≤ r) ∧ (-r ≤ p.2.1 ∧ p.2.1 ≤ r) ∧ (-r ≤ p.2.2 ∧ p.2.2 ≤ r) ∧ Mst n c g (B + 3) S' ∧ Keep n g S S' := by
  have b2 : Bd 2 2 := Bd.of (by decide) (by decide)
  have bm : Bd 100 r := Bd.of (by omega) (by omega)
  obtain ⟨ys, S1, e, hl, hP, m1, k1⟩ := lcLoop_mst (gg := gN 3) (te := eOp gSub (eFn 2 fn__law_draw (aCons (eVar 0) (aCons (eOp gAdd (eOp gMul (eC (.int 2)) (eVar 2)) (eC (.int 1))) aNil))) (eVar 2)) (ρ0 := [some (.ob n), some (.int 6), some (.int r), none]) (P := In r) [.int 0, .int 1, .int 2] [] B S m (by simpa using hB) (by decide) (fun _ h => nomatch h) fun x _ => by
    refine ⟨[some (.ob n), some (.int 6), some (.int r), some x], rfl, fun B S m hB => ?_⟩
    obtain ⟨v, S', e, v0, v1, m', kp⟩ := law_draw_ok m hB (limit := 2 * r + 1) (by omega) (Bd.mono (a := 110) (Bd.of (by omega) (by omega)) (by decide))
    refine ⟨.int (v - r), S', ?_, ⟨_, rfl, by omega, by omega⟩, m', kp⟩
    rw [eOp_of (x := .int v) (y := .int r) (S1 := S') (S2 := S') ?_ rfl]
    · rfl
    · rw [eFn_of (n := 2) (xs := [.ob n, .int (2 * r + 1)]) (S1 := S) ?_ rfl]
      · exact e
      · refine aCons_of (S1 := S) rfl (aCons_of (S1 := S) ?_ rfl)
        simp only [eOp, eVar, eC, List.getElem?_cons_zero, List.getElem?_cons_succ, R.bind_ok, gMul_bd b2 bm (by decide) (by decide) (by decide), gAdd_int]
  obtain ⟨a, b, d, rfl, ha, hb, hd⟩ := three_of (r := r) (by simpa using hl) hP
  refine ⟨(a, b, d), S1 ++ [.lst [.int a, .int b, .int d]], ?_, ha, hb, hd, (m1.mono (by simp)).grow _, k1.trans (.grow _ _ _ _)⟩
  unfold fn__law_four_place body__law_four_place
  refine runDef_rt (ρ := [some (.ob n), some (.int 6), some (.int r), none]) rfl (sRet_of ?_)
  have e6 : tOf (eOp (gEqD false) (eVar 1) (eC (.int 3))) [some (.ob n), some (.int 6), some (.int r), none] S = .ok false S := by
    simp only [tOf, eOp, eVar, eC, List.getElem?_cons_zero, List.getElem?_cons_succ, R.bind_ok, eq_ints']
    rfl
  have er : iR1 (aCons (eIf (tOf (eOp (gEqD false) (eVar 1) (eC (.int 3)))) (eC (.int 2)) (eC (.int 3))) aNil) [some (.ob n), some (.int 6), some (.int r), none] S = .ok ([.int 0, .int 1, .int 2], noChk) S := by
    unfold iR1 aCons eIf
    rw [e6]
    rfl
  have el : eLC (iR1 (aCons (eIf (tOf (eOp (gEqD false) (eVar 1) (eC (.int 3)))) (eC (.int 2)) (eC (.int 3))) aNil)) [3] (gN 3) tAll (eOp gSub (eFn 2 fn__law_draw (aCons (eVar 0) (aCons (eOp gAdd (eOp gMul (eC (.int 2)) (eVar 2)) (eC (.int 1))) aNil))) (eVar 2)) [some (.ob n), some (.int 6), some (.int r), none] S = .ok (.ob S1.length) (S1 ++ [.lst [.int a, .int b, .int d]]) := by
    unfold eLC
    rw [er]; simp only [R.bind_ok]
    have e' : lcLoop (gN 3) tAll (eOp gSub (eFn 2 fn__law_draw (aCons (eVar 0) (aCons (eOp gAdd (eOp gMul (eC (.int 2)) (eVar 2)) (eC (.int 1))) aNil))) (eVar 2)) noChk (wipeD [some (.ob n), some (.int 6), some (.int r), none] [3]) [.int 0, .int 1, .int 2] [] S = .ok [.int a, .int b, .int d] S1 := e
    rw [e']
    rfl
  unfold eCall
  rw [aCons_of (xs := []) (S2 := S1 ++ [.lst [.int a, .int b, .int d]]) el rfl]
  simp only [R.bind_ok, gTupOf, asL, at_last]
  rfl
end Z

set_option Elab.async false
set_option linter.all false
set_option maxRecDepth 100000
set_option maxHeartbeats 1000000
namespace Z
local instance : Tabs := ⟨[]⟩
open PySem L2
abbrev I3 := Int × Int × Int
def B3 (k : Nat) (p : I3) : Prop := Bd k p.1 ∧ Bd k p.2.1 ∧ Bd k p.2.2
theorem B3.mono {a b : Nat} {p : I3} (h : B3 a p) (hab : a ≤ b) : B3 b p := ⟨h.1.mono hab, h.2.1.mono hab, h.2.2.mono hab⟩
def In3 (r : Int) (p : I3) : Prop := (-r ≤ p.1 ∧ p.1 ≤ r) ∧ (-r ≤ p.2.1 ∧ p.2.1 ≤ r) ∧ (-r ≤ p.2.2 ∧ p.2.2 ≤ r)
theorem In3.bd {r : Int} {p : I3} (h : In3 r p) (h1 : r ≤ 1000000000) : B3 30 p := by
  obtain ⟨⟨a, b⟩, ⟨c, d⟩, e, f⟩ := h
  exact ⟨Bd.of (by omega) (by omega), Bd.of (by omega) (by omega), Bd.of (by omega) (by omega)⟩
theorem cross_bd {a b : Nat} {p q : I3} (h : B3 a p) (k : B3 b q) : B3 (a + b + 1) (crossZ p q) :=
  ⟨(h.2.1.mul k.2.2).sub (h.2.2.mul k.2.1), (h.2.2.mul k.1).sub (h.1.mul k.2.2), (h.1.mul k.2.1).sub (h.2.1.mul k.1)⟩
def t6 (v w : I3) : D := .tup [.int v.1, .int v.2.1, .int v.2.2, .int w.1, .int w.2.1, .int w.2.2]
/-- tuple([_law_three_number(m, most) for turn in range(3)]) -/
theorem three_numbers {n c g : Nat} {B : Int} {S : Store} (m : Mst n c g B S) (hB : B + 3 < 2 ^ 60) {r : Int} (h0 : 0 ≤ r) (h1 : r ≤ 10 ^ 30) (p2 p3 p4 p5 p6 p7 p8 : Option D) :
    ∃ (p : I3) (S' : Store), eCall gTupOf (aCons (eLC (iR1 (aCons (eC (.int 3)) aNil)) [7] (gN 7) tAll (eFn 2 fn__law_three_number (aCons (eVar 0) (aCons (eVar 1) aNil)))) aNil) [some (.ob n), some (.int r), p2, p3, p4, p5, p6, p7, p8] S = .ok (t3 p) S' ∧ In3 r p ∧ Mst n c g (B + 3) S' ∧ Keep n g S S' := by
  obtain ⟨ys, S1, e, hl, hP, m1, k1⟩ := lcLoop_mst (gg := gN 7) (te := eFn 2 fn__law_three_number (aCons (eVar 0) (aCons (eVar 1) aNil))) (ρ0 := [some (.ob n), some (.int r), p2, p3, p4, p5, p6, none, p8]) (P := In r) [.int 0, .int 1, .int 2] [] B S m (by simpa using hB) (by decide) (fun _ h => nomatch h) fun x _ => by
    refine ⟨[some (.ob n), some (.int r), p2, p3, p4, p5, p6, some x, p8], rfl, fun B S m hB => ?_⟩
    obtain ⟨v, S', e, v0, v1, m', kp⟩ := law_three_number_ok m hB h0 h1
    refine ⟨.int v, S', ?_, ⟨_, rfl, by omega, by omega⟩, m', kp⟩
    rw [eFn_of (n := 2) (xs := [.ob n, .int r]) (S1 := S) rfl rfl]
    exact e
  obtain ⟨a, b, d, rfl, ha, hb, hd⟩ := three_of (r := r) (by simpa using hl) hP
  refine ⟨(a, b, d), S1 ++ [.lst [.int a, .int b, .int d]], ?_, ⟨ha, hb, hd⟩, (m1.mono (by simp)).grow _, k1.trans (.grow _ _ _ _)⟩
  have el : eLC (iR1 (aCons (eC (.int 3)) aNil)) [7] (gN 7) tAll (eFn 2 fn__law_three_number (aCons (eVar 0) (aCons (eVar 1) aNil))) [some (.ob n), some (.int r), p2, p3, p4, p5, p6, p7, p8] S = .ok (.ob S1.length) (S1 ++ [.lst [.int a, .int b, .int d]]) := by
    unfold eLC
    have er : iR1 (aCons (eC (.int 3)) aNil) [some (.ob n), some (.int r), p2, p3, p4, p5, p6, p7, p8] S = .ok ([.int 0, .int 1, .int 2], noChk) S := rfl
    rw [er]; simp only [R.bind_ok]
    have e' : lcLoop (gN 7) tAll (eFn 2 fn__law_three_number (aCons (eVar 0) (aCons (eVar 1) aNil))) noChk (wipeD [some (.ob n), some (.int r), p2, p3, p4, p5, p6, p7, p8] [7]) [.int 0, .int 1, .int 2] [] S = .ok [.int a, .int b, .int d] S1 := e
    rw [e']
    rfl
  unfold eCall
  rw [aCons_of (xs := []) (S2 := S1 ++ [.lst [.int a, .int b, .int d]]) el rfl]
  simp only [R.bind_ok, gTupOf, asL, at_last]
  rfl
theorem sAsg2 {f : EF} {ρ : Rho} {S S1 : Store} {i j : Nat} {x y : D} (e : f ρ S = .ok (.tup [x, y]) S1) : sAsg (gTupD 2 (gsCons (gN i) (gsCons (gN j) gsNil))) f ρ S = .nx ((ρ.set i (some x)).set j (some y)) S1 := by
  unfold sAsg; rw [e]; rfl
theorem sPar_of {f : AF} {ρ : Rho} {S S1 : Store} {i j : Nat} {x y : D} (e : f ρ S = .ok [x, y] S1) : sPar i j f ρ S = .nx ((ρ.set i (some x)).set j (some y)) S1 := by
  unfold sPar; rw [e]; rfl
theorem eTup_of {f : AF} {ρ : Rho} {S S1 : Store} {xs : List D} (e : f ρ S = .ok xs S1) (h : xs.length ≤ 1000) : eTup f ρ S = .ok (.tup xs) S1 := by
  unfold eTup; rw [e]; simp only [R.bind_ok]
  rw [if_pos (by have : LIM = 16777216 := rfl; omega)]
theorem gAdd_tup {xs ys : List D} (h : xs.length + ys.length ≤ 1000) (S : Store) : gAdd (.tup xs) (.tup ys) S = .ok (.tup (xs ++ ys)) S := by
  show (if xs.length + ys.length ≤ LIM then _ else _) = _
  rw [if_pos (by have : LIM = 16777216 := rfl; omega)]
theorem eLst_of {f : AF} {ρ : Rho} {S S1 : Store} {xs : List D} (e : f ρ S = .ok xs S1) (h : xs.length ≤ 1000) : eLst f ρ S = .ok (.ob S1.length) (S1 ++ [.lst xs]) := by
  unfold eLst; rw [e]; simp only [R.bind_ok]
  rw [if_pos (by have : LIM = 16777216 := rfl; omega)]
  rfl
theorem tEqI {fa : EF} {ρ : Rho} {S S1 : Store} {i j : Int} (e : fa ρ S = .ok (.int i) S1) : tOf (eOp (gEqD false) fa (eC (.int j))) ρ S = .ok (decide (i = j)) S1 := by
  unfold tOf
  rw [eOp_of (x := .int i) (y := .int j) (S1 := S1) (S2 := S1) e rfl, eq_ints']
  rfl
theorem Mst.lt {n c g : Nat} {B : Int} {S : Store} (m : Mst n c g B S) : n < S.length ∧ g < S.length := by
  obtain ⟨_, _, _, k, xs, gs, h1, _, h3, _⟩ := m
  exact ⟨(List.getElem?_eq_some_iff.mp h1).1, (List.getElem?_eq_some_iff.mp h3).1⟩
/-- _law_of over a list that is written out -/
theorem of_lst {n c g : Nat} {B : Int} {S : Store} (m : Mst n c g B S) (hB : B < 2 ^ 60) {f : AF} {ρ : Rho} {ds : List D} {S1 : Store} (hv : ρ[0]? = some (some (.ob n))) (e : f ρ S = .ok ds S1) (gr : Grow S S1) (ne : ds ≠ []) (hl : ds.length < 1000) :
    ∃ d S', eFn 2 fn__law_of (aCons (eVar 0) (aCons (eLst f) aNil)) ρ S = .ok d S' ∧ d ∈ ds ∧ Mst n c g (B + 1) S' ∧ Keep n g S S' ∧ (∀ i, i ≠ n → i ≠ g → i < S1.length → S'[i]? = S1[i]?) := by
  have m1 := gr.mst m
  have lt := m1.lt
  obtain ⟨d, S', e1, hd, m', kp⟩ := law_of_ok (m1.grow [.lst ds]) hB (l := S1.length) (ds := ds) (by simp) (by omega) (by omega) ne hl
  refine ⟨d, S', ?_, hd, m', (gr.keep n g).trans ((Keep.grow _ _ _ _).trans kp), fun i h1 h2 h3 => ?_⟩
  · rw [eFn_of (n := 2) (xs := [.ob n, .ob S1.length]) (S1 := S1 ++ [.lst ds]) ?_ rfl]
    · exact e1
    · refine aCons_of (S1 := S) (by unfold eVar; rw [hv]) (aCons_of (S1 := S1 ++ [.lst ds]) (eLst_of e (by omega)) rfl)
  · rw [kp.at' i h1 h2 (by simp; omega), List.getElem?_append_left h3]
theorem draw_c {n c g : Nat} {B : Int} {S : Store} (m : Mst n c g B S) (hB : B < 2 ^ 60) {ρ : Rho} (hv : ρ[0]? = some (some (.ob n))) {l : Int} (h0 : 0 < l) (h1 : l < 1000) : ∃ v S', eFn 2 fn__law_draw (aCons (eVar 0) (aCons (eC (.int l)) aNil)) ρ S = .ok (.int v) S' ∧ 0 ≤ v ∧ v < l ∧ Mst n c g (B + 1) S' ∧ Keep n g S S' := by
  obtain ⟨v, S', e, v0, v1, m', kp⟩ := law_draw_ok m hB h0 (Bd.mono (a := 10) (Bd.of (by omega) (by omega)) (by decide))
  refine ⟨v, S', ?_, v0, v1, m', kp⟩
  rw [eFn_of (n := 2) (xs := [.ob n, .int l]) (S1 := S) (aCons_of (S1 := S) (by unfold eVar; rw [hv]) rfl) rfl]
  exact e
end Z

set_option Elab.async false
set_option linter.all false
set_option maxRecDepth 100000
set_option maxHeartbeats 1000000
namespace Z
local instance : Tabs := ⟨[]⟩
open PySem L2
theorem aCons1 {f : EF} {ρ : Rho} {S S1 : Store} {x : D} (h : f ρ S = .ok x S1) : aCons f aNil ρ S = .ok [x] S1 := aCons_of h rfl
theorem int_of_mem {d : D} {ns : List Int} (h : d ∈ ns.map D.int) : ∃ i ∈ ns, d = .int i := by
  obtain ⟨i, hi, rfl⟩ := List.mem_map.mp h
  exact ⟨i, hi, rfl⟩
theorem asQ_t3 (p : I3) (S : Store) : asQ S (t3 p) = some ([p.1, p.2.1, p.2.2].map D.int) := rfl
theorem B3.all {k : Nat} {p : I3} (h : B3 k p) : ∀ x ∈ [p.1, p.2.1, p.2.2], Bd k x := by
  intro x hx
  simp only [List.mem_cons, List.not_mem_nil, or_false] at hx
  rcases hx with rfl | rfl | rfl
  · exact h.1
  · exact h.2.1
  · exact h.2.2
def plus3 (p : I3) (t : Int) (q : I3) : I3 := (p.1 + t * q.1, p.2.1 + t * q.2.1, p.2.2 + t * q.2.2)
theorem plus3_bd {a b c : Nat} {p q : I3} {t : Int} (h : B3 a p) (k : B3 b q) (ht : Bd c t) (hab : c + b ≤ a) : B3 (a + 1) (plus3 p t q) :=
  ⟨h.1.add ((ht.mul k.1).mono hab), h.2.1.add ((ht.mul k.2.1).mono hab), h.2.2.add ((ht.mul k.2.2).mono hab)⟩
theorem plus3_ok {p q : I3} {t : Int} (S : Store) (ht : Bd 400000 t) (hq : B3 400000 q) : ∃ S', fn__law_three_plus [t3 p, .int t, t3 q] S = .ok (t3 (plus3 p t q)) S' ∧ Grow S S' := by
  obtain ⟨S', e, g⟩ := law_three_plus_ok (xs := [p.1, p.2.1, p.2.2]) (ys := [q.1, q.2.1, q.2.2]) (t := t) (asQ_t3 p S) (asQ_t3 q S) (by simp) ht hq.all
  exact ⟨S', e, g⟩
theorem cross3_ok {p q : I3} (S : Store) (hp : B3 400000 p) (hq : B3 400000 q) : ∃ S', fn__law_three_cross [t3 p, t3 q] S = .ok (t3 (crossZ p q)) S' ∧ Grow S S' := law_three_cross_ok hp hq
def dot3 (p q : I3) : Int := p.1 * q.1 + p.2.1 * q.2.1 + p.2.2 * q.2.2
theorem dot3_bd {a b : Nat} {p q : I3} (h : B3 a p) (k : B3 b q) : Bd (a + b + 2) (dot3 p q) :=
  ((h.1.mul k.1).add (h.2.1.mul k.2.1)).add ((h.2.2.mul k.2.2).mono (by omega))
theorem dot3_ok {p q : I3} (S : Store) (hp : B3 400000 p) (hq : B3 400000 q) : ∃ S', fn__law_three_dot [t3 p, t3 q] S = .ok (.int (dot3 p q)) S' ∧ Grow S S' := by
  obtain ⟨S', e, g⟩ := law_three_dot_ok (xs := [p.1, p.2.1, p.2.2]) (ys := [q.1, q.2.1, q.2.2]) (asQ_t3 p S) (asQ_t3 q S) (by simp) hp.all hq.all
  refine ⟨S', ?_, g⟩
  rw [e]
  congr 2
  show p.1 * q.1 + (p.2.1 * q.2.1 + (p.2.2 * q.2.2 + 0)) = p.1 * q.1 + p.2.1 * q.2.1 + p.2.2 * q.2.2
  omega
/-- tuple([share * number for number in turning]) -/
theorem times_row {ρ : Rho} {S : Store} {k : Int} {q : I3} (h : B3 30 q) (hk : Bd 30 k) (p0 p1 p2 p4 p5 p7 p8 : Option D) (hρ : ρ = [p0, p1, p2, some (t3 q), p4, p5, some (.int k), p7, p8]) :
    eCall gTupOf (aCons (eLC (iSeq (eVar 3)) [8] (gN 8) tAll (eOp gMul (eVar 6) (eVar 8))) aNil) ρ S = .ok (t3 (k * q.1, k * q.2.1, k * q.2.2)) (S ++ [.lst [.int (k * q.1), .int (k * q.2.1), .int (k * q.2.2)]]) := by
  subst hρ
  have el : eLC (iSeq (eVar 3)) [8] (gN 8) tAll (eOp gMul (eVar 6) (eVar 8)) [p0, p1, p2, some (t3 q), p4, p5, some (.int k), p7, p8] S = .ok (.ob S.length) (S ++ [.lst [.int (k * q.1), .int (k * q.2.1), .int (k * q.2.2)]]) := by
    unfold eLC
    have er : iSeq (eVar 3) [p0, p1, p2, some (t3 q), p4, p5, some (.int k), p7, p8] S = .ok ([.int q.1, .int q.2.1, .int q.2.2], noChk) S := rfl
    rw [er]; simp only [R.bind_ok]
    rw [lcLoop_pure (f := fun d => match d with | .int i => .int (k * i) | d => d) (by rfl) _ _ (by show 0 + 3 ≤ LIM; decide)]
    · rfl
    · intro x hx
      obtain ⟨i, hi, rfl⟩ := int_of_mem (ns := [q.1, q.2.1, q.2.2]) hx
      refine ⟨[p0, p1, p2, some (t3 q), p4, p5, some (.int k), p7, some (.int i)], rfl, ?_⟩
      rw [eOp_of (x := .int k) (y := .int i) (S1 := S) (S2 := S) rfl rfl]
      exact gMul_bd hk (h.all i hi) (by decide) (by decide) (by decide) S
  unfold eCall
  rw [aCons_of (xs := []) el rfl]
  simp only [R.bind_ok, gTupOf, asL, at_last]
  rfl
theorem law_motion_ok {n c g : Nat} {B : Int} {S : Store} (m : Mst n c g B S) (hB : B + 20 < 2 ^ 60) :
    ∃ (v w : I3) (S' : Store), fn__law_motion [.ob n] S = .ok (t6 v w) S' ∧ B3 100 v ∧ B3 100 w ∧ Mst n c g (B + 20) S' ∧ Keep n g S S' := by
  unfold fn__law_motion body__law_motion
  have fin : ∀ {d : D} {ρ : Rho} {gg : SF} {S' : Store} {P : Prop}, ([D.ob n].map some ++ List.replicate (9 - [D.ob n].length) none = ρ) → gg ρ S = .rt d S' → P → (runDef 9 gg [.ob n] S = .ok d S' ∧ P) := fun h1 h2 h3 => ⟨runDef_rt h1 h2, h3⟩
  -- most, pick
  obtain ⟨d, S1, e1, hd, m1, k1, _⟩ := of_lst (f := aCons (eC (.int 1)) (aCons (eC (.int 3)) (aCons (eC (.int 1000)) (aCons (eOp gPow (eC (.int 10)) (eC (.int 9))) aNil)))) (ρ := [some (.ob n), none, none, none, none, none, none, none, none]) (ds := [.int 1, .int 3, .int 1000, .int 1000000000]) (S1 := S) m (by omega) rfl rfl (.refl _) (by simp) (by decide)
  obtain ⟨most, hmost, rfl⟩ := int_of_mem (ns := [1, 3, 1000, 1000000000]) hd
  have hm0 : 0 ≤ most ∧ most ≤ 1000000000 := by
    simp only [List.mem_cons, List.not_mem_nil, or_false] at hmost
    omega
  obtain ⟨pick, S2, e2, _, _, m2, k2⟩ := draw_c (l := 4) (ρ := [some (.ob n), none, none, none, none, none, none, none, none]) m1 (by omega) rfl (by decide) (by decide)
  have q1 := sAsg2 (i := 1) (j := 2) (eTup_of (aCons_of e1 (aCons1 e2)) (by simp))
  -- turning
  obtain ⟨w, S3, e3, iw, m3, k3⟩ := three_numbers m2 (by omega) hm0.1 (show most ≤ 10 ^ 30 by omega) (some (.int pick)) none none none none none none
  have q2 := sSet_of (i := 3) e3
  have bw : B3 30 w := iw.bd hm0.2
  have kk3 : Keep n g S S3 := (k1.trans k2).trans k3
  have rest : ∀ {d : D} {S' : Store} {h : SF}, h [some (.ob n), some (.int most), some (.int pick), some (t3 w), none, none, none, none, none] S3 = .rt d S' → sSeq (sAsg (gTupD 2 (gsCons (gN 1) (gsCons (gN 2) gsNil))) (eTup (aCons (eFn 2 fn__law_of (aCons (eVar 0) (aCons (eLst (aCons (eC (.int 1)) (aCons (eC (.int 3)) (aCons (eC (.int 1000)) (aCons (eOp gPow (eC (.int 10)) (eC (.int 9))) aNil))))) aNil))) (aCons (eFn 2 fn__law_draw (aCons (eVar 0) (aCons (eC (.int 4)) aNil))) aNil)))) (sSeq (sSet 3 (eCall gTupOf (aCons (eLC (iR1 (aCons (eC (.int 3)) aNil)) [7] (gN 7) tAll (eFn 2 fn__law_three_number (aCons (eVar 0) (aCons (eVar 1) aNil)))) aNil))) h) [some (.ob n), none, none, none, none, none, none, none, none] S = .rt d S' := by
    intro d S' h hh
    rw [sSeq_nx q1]
    simp only [List.set_cons_succ, List.set_cons_zero]
    rw [sSeq_nx q2]
    simp only [List.set_cons_succ, List.set_cons_zero]
    exact hh
  have t0 : ∀ (j : Int) (p4 p5 p6 p7 p8 : Option D), tOf (eOp (gEqD false) (eVar 2) (eC (.int j))) [some (.ob n), some (.int most), some (.int pick), some (t3 w), p4, p5, p6, p7, p8] S3 = .ok (decide (pick = j)) S3 := fun j p4 p5 p6 p7 p8 => tEqI rfl
  by_cases h0 : pick = 0
  · refine ⟨w, (0, 0, 0), S3, runDef_rt rfl (rest ?_), bw.mono (by decide), ⟨Bd.of (by decide) (by decide), Bd.of (by decide) (by decide), Bd.of (by decide) (by decide)⟩, m3.mono (by omega), kk3⟩
    rw [sSeq_rt]
    rw [sIf_of (t0 0 _ _ _ _ _), if_pos (by simp [h0])]
    refine sRet_of ?_
    rw [eOp_of (x := t3 w) (y := .tup [.int 0, .int 0, .int 0]) (S1 := S3) (S2 := S3) rfl rfl]
    exact gAdd_tup (by show 3 + 3 ≤ 1000; decide) _
  by_cases h1 : pick = 1
  · -- a turn about an axis
    obtain ⟨st, S4, e4, a4, b4, c4, m4, k4⟩ := law_four_place_ok m3 (by omega) hm0.1 (show most ≤ 10 ^ 30 by omega)
    have bst : B3 30 st := In3.bd (r := most) ⟨a4, b4, c4⟩ hm0.2
    obtain ⟨al, S5, e5, a5, b5, m5, k5⟩ := law_three_number_ok m4 (by omega) (most := 3) (by decide) (by decide)
    obtain ⟨S6, e6, g6⟩ := cross3_ok (p := st) (q := w) S5 (bst.mono (by decide)) (bw.mono (by decide))
    have bc : B3 100 (crossZ st w) := (cross_bd bst bw).mono (by decide)
    have ba : Bd 10 al := Bd.of (by omega) (by omega)
    obtain ⟨S7, e7, g7⟩ := plus3_ok (p := crossZ st w) (q := w) (t := al) S6 (ba.mono (by decide)) (bw.mono (by decide))
    have bp : B3 100 (plus3 (crossZ st w) al w) := (plus3_bd ((cross_bd bst bw).mono (by decide : 61 ≤ 90)) bw ba (by decide)).mono (by decide)
    refine ⟨plus3 (crossZ st w) al w, w, S7, runDef_rt rfl (rest ?_), bp, bw.mono (by decide), (g7.mst (g6.mst m5)).mono (by omega), (((kk3.trans k4).trans k5).trans (g6.keep _ _)).trans (g7.keep _ _)⟩
    rw [sSeq_nx (ρ' := _) (S' := S3) (by rw [sIf_of (t0 0 _ _ _ _ _), if_neg (by simp [h0])]; rfl)]
    rw [sSeq_rt]
    rw [sIf_of (t0 1 _ _ _ _ _), if_pos (by simp [h1])]
    rw [sSeq_nx (sPar_of (i := 4) (j := 5) (x := t3 st) (y := .int al) (S1 := S5) (aCons_of (S1 := S4) (by rw [eFn_of (n := 3) (xs := [.ob n, .int 6, .int most]) (S1 := S3) rfl rfl]; exact e4) (aCons_of (S1 := S5) (by rw [eFn_of (n := 2) (xs := [.ob n, .int 3]) (S1 := S4) rfl rfl]; exact e5) rfl)))]
    simp only [List.set_cons_succ, List.set_cons_zero]
    refine sRet_of ?_
    rw [eOp_of (x := t3 (plus3 (crossZ st w) al w)) (y := t3 w) (S1 := S7) (S2 := S7) ?_ rfl]
    · exact gAdd_tup (by show 3 + 3 ≤ 1000; decide) _
    · rw [eFn_of (n := 3) (xs := [t3 (crossZ st w), .int al, t3 w]) (S1 := S6) (aCons_of (S1 := S6) (by rw [eFn_of (n := 2) (xs := [t3 st, t3 w]) (S1 := S5) rfl rfl]; exact e6) rfl) rfl]
      exact e7
  by_cases h2 : pick = 2
  · obtain ⟨sh, S4, e4, a4, b4, m4, k4⟩ := draw_c (l := 5) (ρ := [some (.ob n), some (.int most), some (.int pick), some (t3 w), none, none, none, none, none]) m3 (by omega) rfl (by decide) (by decide)
    obtain ⟨v, S5, e5, iv, m5, k5⟩ := three_numbers m4 (by omega) hm0.1 (show most ≤ 10 ^ 30 by omega) (some (.int pick)) (some (t3 w)) none none (some (.int (2 + sh))) none none
    have bs : Bd 30 (2 + sh) := Bd.of (by omega) (by omega)
    have e6 := times_row (S := S5) bw bs (some (.ob n)) (some (.int most)) (some (.int pick)) none none none none rfl
    refine ⟨v, ((2 + sh) * w.1, (2 + sh) * w.2.1, (2 + sh) * w.2.2), S5 ++ [.lst [.int ((2 + sh) * w.1), .int ((2 + sh) * w.2.1), .int ((2 + sh) * w.2.2)]], runDef_rt rfl (rest ?_), (iv.bd hm0.2).mono (by decide), ⟨(bs.mul bw.1).mono (by decide), (bs.mul bw.2.1).mono (by decide), (bs.mul bw.2.2).mono (by decide)⟩, (m5.grow _).mono (by omega), ((kk3.trans k4).trans k5).trans (.grow _ _ _ _)⟩
    rw [sSeq_nx (ρ' := _) (S' := S3) (by rw [sIf_of (t0 0 _ _ _ _ _), if_neg (by simp [h0])]; rfl)]
    rw [sSeq_nx (ρ' := _) (S' := S3) (by rw [sIf_of (t0 1 _ _ _ _ _), if_neg (by simp [h1])]; rfl)]
    rw [sSeq_rt]
    rw [sIf_of (t0 2 _ _ _ _ _), if_pos (by simp [h2])]
    rw [sSeq_nx (sSet_of (i := 6) (d := .int (2 + sh)) (S1 := S4) (by rw [eOp_of (x := .int 2) (y := .int sh) (S1 := S3) (S2 := S4) rfl e4]; rfl))]
    simp only [List.set_cons_succ, List.set_cons_zero]
    refine sRet_of ?_
    rw [eOp_of e5 e6]
    exact gAdd_tup (by show 3 + 3 ≤ 1000; decide) _
  · obtain ⟨v, S5, e5, iv, m5, k5⟩ := three_numbers m3 (by omega) hm0.1 (show most ≤ 10 ^ 30 by omega) (some (.int pick)) (some (t3 w)) none none none none none
    refine ⟨v, w, S5, runDef_rt rfl (rest ?_), (iv.bd hm0.2).mono (by decide), bw.mono (by decide), m5.mono (by omega), kk3.trans k5⟩
    rw [sSeq_nx (ρ' := _) (S' := S3) (by rw [sIf_of (t0 0 _ _ _ _ _), if_neg (by simp [h0])]; rfl)]
    rw [sSeq_nx (ρ' := _) (S' := S3) (by rw [sIf_of (t0 1 _ _ _ _ _), if_neg (by simp [h1])]; rfl)]
    rw [sSeq_nx (ρ' := _) (S' := S3) (by rw [sIf_of (t0 2 _ _ _ _ _), if_neg (by simp [h2])]; rfl)]
    refine sRet_of ?_
    rw [eOp_of (y := t3 w) (S2 := S5) e5 rfl]
    exact gAdd_tup (by show 3 + 3 ≤ 1000; decide) _
end Z

set_option Elab.async false
set_option linter.all false
set_option maxRecDepth 100000
set_option maxHeartbeats 1000000
namespace Z
local instance : Tabs := ⟨[]⟩
open PySem L2
theorem dCut_hi (xs : List D) (s : Nat) (h : s ≤ xs.length) : dCut xs none (some (s : Int)) = xs.take s := by
  unfold dCut dSx
  simp only
  rw [if_neg (by omega)]
  simp only [List.drop_zero, Nat.sub_zero, Int.toNat_natCast]
  rw [Nat.min_eq_left h]
theorem dCut_lo (xs : List D) (s : Nat) : dCut xs (some (s : Int)) none = xs.drop s := by
  unfold dCut dSx
  simp only
  rw [if_neg (by omega), Int.toNat_natCast]
  by_cases h : s ≤ xs.length
  · rw [Nat.min_eq_left h, List.take_of_length_le (by simp)]
  · rw [Nat.min_eq_right (by omega)]
    simp
    omega
def kindO : O → String
  | .lst _ => "list"
  | .frz _ => "list"
  | .dct _ => "dict"
theorem tyD_ob {S : Store} {i : Nat} {o : O} (e : S[i]? = some o) : tyD S (.ob i) = some (kindO o) := by
  show (match S[i]? with
    | some (.lst _) => some "list"
    | some (.frz _) => some "list"
    | some (.dct _) => some "dict"
    | none => none) = _
  rw [e]; cases o <;> rfl
theorem tyD_ob_of {S : Store} {i : Nat} {T : String} (h : tyD S (.ob i) = some T) : ∃ o, S[i]? = some o ∧ T = kindO o := by
  cases e : S[i]? with
  | none =>
    have : tyD S (.ob i) = none := by
      show (match S[i]? with
        | some (.lst _) => some "list"
        | some (.frz _) => some "list"
        | some (.dct _) => some "dict"
        | none => none) = _
      rw [e]
    rw [this] at h; exact nomatch h
  | some o =>
    rw [tyD_ob e] at h
    exact ⟨o, rfl, (Option.some.inj h).symm⟩
/-- data that is no row of so many integers -/
def NotRow (L : Nat) (S : Store) (d : D) : Prop :=
  (∃ T, tyD S d = some T ∧ T ≠ "tuple") ∨
  (∃ xs, d = .tup xs ∧ xs.length ≤ 1000 ∧ (xs.length ≠ L ∨ ((∀ x ∈ xs, ∃ T, tyD S x = some T) ∧ ∃ x ∈ xs, ∃ T, tyD S x = some T ∧ T ≠ "int")))
theorem ty_ints {S : Store} {ns : List Int} : ∀ x ∈ ns.map D.int, ∃ T, tyD S x = some T := fun x h => by
  obtain ⟨i, _, rfl⟩ := int_of_mem h
  exact ⟨_, rfl⟩
theorem Keep.ty {n g : Nat} {S S' : Store} (k : Keep n g S S') {i : Nat} (h1 : i ≠ n) (h2 : i ≠ g) {T : String} (h : tyD S (.ob i) = some T) : tyD S' (.ob i) = some T := by
  obtain ⟨o, e, rfl⟩ := tyD_ob_of h
  exact tyD_ob (by rw [k.at' i h1 h2 (List.getElem?_eq_some_iff.mp e).1, e])
theorem Grow.ty {S S' : Store} (k : Grow S S') {d : D} {T : String} (h : tyD S d = some T) : tyD S' d = some T := by
  cases d <;> try exact h
  obtain ⟨o, e, rfl⟩ := tyD_ob_of h
  exact tyD_ob (k.get e)
theorem NotRow.grow {L : Nat} {S S' : Store} {d : D} (k : Grow S S') (h : NotRow L S d) : NotRow L S' d := by
  rcases h with ⟨T, h, hT⟩ | ⟨xs, rfl, hl, h⟩
  · exact .inl ⟨T, k.ty h, hT⟩
  · refine .inr ⟨xs, rfl, hl, ?_⟩
    rcases h with h | ⟨h, x, hx, T, e, hT⟩
    · exact .inl h
    · refine .inr ⟨fun y hy => ?_, x, hx, T, k.ty e, hT⟩
      obtain ⟨U, hU⟩ := h y hy
      exact ⟨U, k.ty hU⟩
theorem tOr {f g : TF} {ρ : Rho} {S S1 S2 : Store} {a b : Bool} (h1 : f ρ S = .ok a S1) (h2 : g ρ S1 = .ok b S2) (h3 : S2 = S1) : fOr f g ρ S = .ok (a || b) S1 := by
  unfold fOr; rw [h1]; simp only [R.bind_ok]
  cases a
  · simp only [Bool.false_eq_true, if_false, Bool.false_or]
    rw [h2, h3]
  · simp
theorem law_three_bad_ok {n c g : Nat} {B : Int} {S : Store} (m : Mst n c g B S) (hB : B + 5 < 2 ^ 60) {ns : List Int} (hl : 0 < ns.length ∧ ns.length ≤ 400) :
    ∃ (d : D) (S' : Store), fn__law_three_bad [.ob n, .tup (ns.map D.int)] S = .ok d S' ∧ NotRow ns.length S' d ∧ Mst n c g (B + 5) S' ∧ Keep n g S S' := by
  unfold fn__law_three_bad body__law_three_bad
  obtain ⟨pick, S1, e1, a1, b1, m1, k1⟩ := draw_c (l := 4) (ρ := [some (.ob n), some (.tup (ns.map D.int)), none, none]) m (by omega) rfl (by decide) (by decide)
  have rest : ∀ {d : D} {S' : Store} {h : SF}, h [some (.ob n), some (.tup (ns.map D.int)), some (.int pick), none] S1 = .rt d S' → sSeq (sSet 2 (eFn 2 fn__law_draw (aCons (eVar 0) (aCons (eC (.int 4)) aNil)))) h [some (.ob n), some (.tup (ns.map D.int)), none, none] S = .rt d S' := by
    intro d S' h hh
    rw [sSeq_nx (sSet_of e1)]
    exact hh
  have t0 : ∀ (j : Int) (p : Option D), tOf (eOp (gEqD false) (eVar 2) (eC (.int j))) [some (.ob n), some (.tup (ns.map D.int)), some (.int pick), p] S1 = .ok (decide (pick = j)) S1 := fun j p => tEqI rfl
  have t1 : tOf (eOp (gEqD false) (eCall gLen (aCons (eVar 1) aNil)) (eC (.int 0))) [some (.ob n), some (.tup (ns.map D.int)), some (.int pick), none] S1 = .ok (decide (((ns.map D.int).length : Int) = 0)) S1 := tEqI rfl
  have lz : decide (((ns.map D.int).length : Int) = 0) = false := decide_eq_false (by rw [List.length_map]; omega)
  have tt := tOr (t0 0 none) t1 rfl
  rw [lz, Bool.or_false] at tt
  have ml := m1.lt
  by_cases h0 : pick = 0
  · obtain ⟨d, S2, e2, hd, m2, k2, at2⟩ := of_lst (f := aCons (eC .non) (aCons (eCall gListOf (aCons (eVar 1) aNil)) (aCons (eC (.int 7)) (aCons (eC (.str "row")) (aCons eNewD aNil))))) (ρ := [some (.ob n), some (.tup (ns.map D.int)), some (.int pick), none]) (ds := [.non, .ob S1.length, .int 7, .str "row", .ob (S1.length + 1)]) (S := S1) (S1 := S1 ++ [.lst (ns.map D.int)] ++ [.dct []]) m1 (by omega) rfl
      (by
        refine aCons_of (S1 := S1) rfl (aCons_of (S1 := S1 ++ [.lst (ns.map D.int)]) rfl (aCons_of (S1 := S1 ++ [.lst (ns.map D.int)]) rfl (aCons_of (S1 := S1 ++ [.lst (ns.map D.int)]) rfl (aCons1 ?_))))
        unfold eNewD newD
        simp) ((Grow.one _ _).trans (Grow.one _ _)) (by simp) (by show 5 < 1000; decide)
    refine ⟨d, S2, runDef_rt rfl (rest ?_), .inl ?_, m2.mono (by omega), k1.trans k2⟩
    · rw [sSeq_rt]
      rw [sIf_of tt, if_pos (by simp [h0])]
      exact sRet_of e2
    · simp only [List.mem_cons, List.not_mem_nil, or_false] at hd
      rcases hd with rfl | rfl | rfl | rfl | rfl
      · exact ⟨"NoneType", rfl, by decide⟩
      · exact ⟨"list", tyD_ob (o := .lst (ns.map D.int)) (by rw [at2 _ (by omega) (by omega) (by simp)]; simp), by decide⟩
      · exact ⟨"int", rfl, by decide⟩
      · exact ⟨"str", rfl, by decide⟩
      · exact ⟨"dict", tyD_ob (o := .dct []) (by rw [at2 _ (by omega) (by omega) (by simp)]; simp), by decide⟩
  have s1 : ∀ {h : SF} {r : SF}, sSeq (sIf (fOr (tOf (eOp (gEqD false) (eVar 2) (eC (.int 0)))) (tOf (eOp (gEqD false) (eCall gLen (aCons (eVar 1) aNil)) (eC (.int 0))))) r sNil) h [some (.ob n), some (.tup (ns.map D.int)), some (.int pick), none] S1 = h [some (.ob n), some (.tup (ns.map D.int)), some (.int pick), none] S1 := by
    intro h r
    rw [sSeq_nx (ρ' := _) (S' := S1) (by rw [sIf_of tt, if_neg (by simp [h0])]; rfl)]
  by_cases h1 : pick = 1
  · obtain ⟨d, S2, e2, hd, m2, k2, at2⟩ := of_lst (f := aCons (eOp gAdd (eVar 1) (eTup (aCons (eC (.int 0)) aNil))) (aCons (eSl (eVar 1) (pSome (eC (.int 1))) pNone) (aCons (eOp gAdd (eVar 1) (eVar 1)) aNil))) (ρ := [some (.ob n), some (.tup (ns.map D.int)), some (.int pick), none]) (ds := [.tup (ns.map D.int ++ [.int 0]), .tup ((ns.map D.int).drop 1), .tup (ns.map D.int ++ ns.map D.int)]) (S := S1) (S1 := S1) m1 (by omega) rfl
      (by
        refine aCons_of (S1 := S1) ?_ (aCons_of (S1 := S1) ?_ (aCons1 ?_))
        · rw [eOp_of (x := .tup (ns.map D.int)) (y := .tup [.int 0]) (S1 := S1) (S2 := S1) rfl rfl]
          exact gAdd_tup (by simp; omega) _
        · show R.ok (D.tup (dCut (ns.map D.int) (some ((1 : Nat) : Int)) none)) S1 = _
          rw [dCut_lo]
        · rw [eOp_of (x := .tup (ns.map D.int)) (y := .tup (ns.map D.int)) (S1 := S1) (S2 := S1) rfl rfl]
          exact gAdd_tup (by simp; omega) _) (.refl _) (by simp) (by show 3 < 1000; decide)
    refine ⟨d, S2, runDef_rt rfl (rest ?_), .inr ?_, m2.mono (by omega), k1.trans k2⟩
    · rw [s1]
      rw [sSeq_rt]
      rw [sIf_of (t0 1 none), if_pos (by simp [h1])]
      exact sRet_of e2
    · simp only [List.mem_cons, List.not_mem_nil, or_false] at hd
      rcases hd with rfl | rfl | rfl
      · exact ⟨_, rfl, by simp; omega, .inl (by simp)⟩
      · exact ⟨_, rfl, by simp; omega, .inl (by rw [List.length_drop, List.length_map]; omega)⟩
      · exact ⟨_, rfl, by simp; omega, .inl (by rw [List.length_append, List.length_map]; omega)⟩
  · -- one thing of it changed
    have lpos : 0 < (ns.length : Int) := by omega
    obtain ⟨v, S2, e2, a2, b2, m2, k2⟩ := law_draw_ok m1 (by omega) (limit := ns.length) lpos (Bd.mono (a := 10) (Bd.of (by omega) (by omega)) (by decide))
    have ml2 := m2.lt
    obtain ⟨s, rfl⟩ : ∃ s : Nat, v = s := ⟨v.toNat, by omega⟩
    have hs : s < ns.length := by omega
    let ρ2 : Rho := [some (.ob n), some (.tup (ns.map D.int)), some (.int pick), some (.int (s : Nat))]
    obtain ⟨d, S3, e3, hd, m3, k3, at3⟩ := of_lst (f := aCons (eC .non) (aCons (eC (.bl true)) (aCons (eC (.bl false)) (aCons (eC (.str "1")) (aCons (eTup (aCons (eC (.int 1)) aNil)) (aCons (eLst (aCons (eC (.int 1)) aNil)) aNil)))))) (ρ := ρ2) (ds := [.non, .bl true, .bl false, .str "1", .tup [.int 1], .ob S2.length]) (S := S2) (S1 := S2 ++ [.lst [.int 1]]) m2 (by omega) rfl rfl (.one _ _) (by simp) (by show 6 < 1000; decide)
    have hty : ∃ T, tyD S3 d = some T ∧ T ≠ "int" := by
      simp only [List.mem_cons, List.not_mem_nil, or_false] at hd
      rcases hd with rfl | rfl | rfl | rfl | rfl | rfl
      · exact ⟨_, rfl, by decide⟩
      · exact ⟨_, rfl, by decide⟩
      · exact ⟨_, rfl, by decide⟩
      · exact ⟨_, rfl, by decide⟩
      · exact ⟨_, rfl, by decide⟩
      · exact ⟨"list", tyD_ob (o := .lst [.int 1]) (by rw [at3 _ (by omega) (by omega) (by simp)]; simp), by decide⟩
    have len : ((ns.map D.int).take s ++ [d] ++ (ns.map D.int).drop (s + 1)).length = ns.length := by simp; omega
    refine ⟨.tup ((ns.map D.int).take s ++ [d] ++ (ns.map D.int).drop (s + 1)), S3, runDef_rt rfl (rest ?_), .inr ⟨_, rfl, by omega, .inr ⟨fun x hx => ?_, d, by simp, hty⟩⟩, m3.mono (by omega), (k1.trans k2).trans k3⟩
    · rw [s1]
      rw [sSeq_nx (ρ' := _) (S' := S1) (by rw [sIf_of (t0 1 none), if_neg (by simp [h1])]; rfl)]
      rw [sSeq_nx (sSet_of (i := 3) (d := .int (s : Nat)) (S1 := S2) (by
        rw [eFn_of (n := 2) (xs := [.ob n, .int ns.length]) (S1 := S1) (aCons_of (S1 := S1) rfl (aCons1 (S1 := S1) (by
          show R.ok (D.int (ns.map D.int).length) S1 = _
          rw [List.length_map]))) rfl]
        exact e2))]
      simp only [List.set_cons_succ, List.set_cons_zero]
      refine sRet_of ?_
      rw [eOp_of (x := .tup ((ns.map D.int).take s ++ [d])) (y := .tup ((ns.map D.int).drop (s + 1))) (S1 := S3) (S2 := S3) ?_ ?_]
      · exact gAdd_tup (by rw [← List.length_append, len]; omega) _
      · rw [eOp_of (x := .tup ((ns.map D.int).take s)) (y := .tup [d]) (S1 := S2) (S2 := S3) ?_ (eTup_of (aCons1 e3) (by simp))]
        · exact gAdd_tup (by simp; omega) _
        · show R.ok (D.tup (dCut (ns.map D.int) none (some (s : Int)))) S2 = _
          rw [dCut_hi _ _ (by simp; omega)]
      · show R.ok (D.tup (dCut (ns.map D.int) (some ((s : Int) + 1)) none)) S3 = _
        have : ((s : Int) + 1) = ((s + 1 : Nat) : Int) := by omega
        rw [this, dCut_lo]
    · simp only [List.mem_append, List.mem_singleton] at hx
      rcases hx with (hx | rfl) | hx
      · exact ty_ints x (List.mem_of_mem_take hx)
      · exact ⟨hty.choose, hty.choose_spec.1⟩
      · exact ty_ints x (List.mem_of_mem_drop hx)
end Z

set_option Elab.async false
set_option linter.all false
set_option maxRecDepth 100000
set_option maxHeartbeats 1000000
namespace Z
local instance : Tabs := ⟨[]⟩
open PySem L2
theorem pyD_tints (n : Nat) (S : Store) (xs : List Int) : pyD (n + 1) S (.tup (xs.map D.int)) = some (.tuple (xs.map PyData.int)) := by
  show (pyAll (pyD n S) (xs.map D.int)).map PyData.tuple = _
  rw [pyAll_ints]; rfl
theorem pyD_lints (n : Nat) {S : Store} {k : Nat} {xs : List Int} (h : S[k]? = some (.lst (xs.map D.int))) : pyD (n + 1) S (.ob k) = some (.list (xs.map PyData.int)) := by
  show (match asL S (.ob k) with
    | some zs => (pyAll (pyD n S) zs).map PyData.list
    | none => none) = _
  have : asL S (.ob k) = some (xs.map D.int) := by simp only [asL, h]
  rw [this]; simp only [pyAll_ints, Option.map]
theorem shaped_tints (xs : List Int) : SeqAt.shaped (.tuple (xs.map PyData.int)) = true := by
  unfold SeqAt.shaped
  simp only [PyData.canLay0, canLay_ints, PyData.depth, depth_ints]
  decide
theorem eq_tups {neg : Bool} {S : Store} (xs ys : List Int) : gEqD neg (.tup (xs.map D.int)) (.tup (ys.map D.int)) S = .ok (.bl (if neg = true then !decide (xs = ys) else decide (xs = ys))) S := by
  show gEqP neg (.tup (xs.map D.int)) (.tup (ys.map D.int)) S = _
  unfold gEqP
  rw [show FUEL = 11 + 1 from rfl, pyD_tints, pyD_tints]
  simp only
  rw [if_pos ⟨shaped_tints xs, shaped_tints ys⟩]
  simp only [PyData.eqv, eqv_ints]
theorem shaped_bl (b : Bool) : SeqAt.shaped (.bool b) = true := by
  unfold SeqAt.shaped
  simp only [PyData.canLay0, PyData.depth]
  rfl
theorem pyD_bl (n : Nat) (S : Store) (b : Bool) : pyD n S (.bl b) = some (.bool b) := by cases n <;> rfl
theorem eq_bls {neg : Bool} {S : Store} (a b : Bool) : gEqD neg (.bl a) (.bl b) S = .ok (.bl (if neg = true then !(a == b) else (a == b))) S := by
  show gEqP neg (.bl a) (.bl b) S = _
  unfold gEqP
  rw [pyD_bl, pyD_bl]
  simp only
  rw [if_pos ⟨shaped_bl a, shaped_bl b⟩]
  cases a <;> cases b <;> rfl
def nice (p : PyData) : Bool := p.showable && !p.hasDict && decide (p.depth ≤ 60) && p.leavesShort 1100 && decide (p.bulk ≤ 1000)
theorem nice_len {p : PyData} (h : p.leavesShort 1100 = true) (k : p.bulk ≤ 1000) : p.shown.length ≤ LIM := by
  have e := PyData.shown_le_bulk 1100 (by decide) p h
  have : (1100 + 2) * p.bulk ≤ 1102 * 1000 := Nat.mul_le_mul_left _ k
  have : LIM = 16777216 := rfl
  omega
theorem repr_nice {d : D} {S : Store} {p : PyData} (hd : (∃ xs, d = .tup xs) ∨ ∃ k, d = .ob k) (hp : pyD FUEL S d = some p) (h : nice p = true) : gRepr [d] S = .ok (.str p.shown) S := by
  unfold nice at h
  simp only [Bool.and_eq_true, Bool.not_eq_true', decide_eq_true_eq] at h
  obtain ⟨⟨⟨⟨a, b⟩, c⟩, e⟩, f⟩ := h
  rcases hd with ⟨xs, rfl⟩ | ⟨k, rfl⟩
  · show (match pyD FUEL S (.tup xs) with
      | some p => if p.showable = true ∧ p.hasDict = false ∧ p.depth ≤ 60 ∧ p.shown.length ≤ LIM then R.ok (D.str p.shown) S else .bad
      | none => .bad) = _
    rw [hp]; simp only
    rw [if_pos ⟨a, b, c, nice_len e f⟩]
  · show (match pyD FUEL S (.ob k) with
      | some p => if p.showable = true ∧ p.hasDict = false ∧ p.depth ≤ 60 ∧ p.shown.length ≤ LIM then R.ok (D.str p.shown) S else .bad
      | none => .bad) = _
    rw [hp]; simp only
    rw [if_pos ⟨a, b, c, nice_len e f⟩]
theorem law_like_ok {a b : D} {S : Store} {p : PyData} (ca : (∃ xs, a = .tup xs) ∨ ∃ k, a = .ob k) (cb : (∃ xs, b = .tup xs) ∨ ∃ k, b = .ob k) (ha : pyD FUEL S a = some p) (hb : pyD FUEL S b = some p) (h : nice p = true) : fn__law_like [a, b] S = .ok (.bl true) S := by
  unfold fn__law_like body__law_like
  refine runDef_rt (ρ := [some a, some b]) rfl (sRet_of ?_)
  rw [eOp_of (x := .str p.shown) (y := .str p.shown) (S1 := S) (S2 := S) (repr_nice ca ha h) (repr_nice cb hb h)]
  show R.ok (D.bl (if false = true then !decide (p.shown = p.shown) else decide (p.shown = p.shown))) S = _
  simp
theorem short_int {i : Int} (h : Bd 1000 i) : PyData.leavesShort 1100 (.int i) = true := by
  have e := int_text_length_le (a := i) (k := 1000) (by decide) (h.log (by decide))
  show decide ((PyData.shown (.int i)).length ≤ 1100) = true
  rw [decide_eq_true_eq]
  show (Str.ofString (toString i)).length ≤ 1100
  rw [ofString_length]; omega
theorem short_ints : ∀ xs : List Int, (∀ x ∈ xs, Bd 1000 x) → PyData.leavesShortAll 1100 (xs.map PyData.int) = true
  | [], _ => rfl
  | x :: xs, h => by
    simp only [List.map_cons, PyData.leavesShortAll, Bool.and_eq_true]
    exact ⟨short_int (h x List.mem_cons_self), short_ints xs fun y hy => h y (List.mem_cons_of_mem _ hy)⟩
theorem bulk_ints : ∀ xs : List Int, PyData.bulkAll (xs.map PyData.int) = xs.length
  | [] => rfl
  | x :: xs => by simp only [List.map_cons, PyData.bulkAll, PyData.bulk, bulk_ints xs, List.length_cons]; omega
theorem noDict_ints : ∀ xs : List Int, PyData.hasDictAll (xs.map PyData.int) = false
  | [] => rfl
  | x :: xs => by simp only [List.map_cons, PyData.hasDictAll, PyData.hasDict, noDict_ints xs, Bool.or_self]
theorem nice_tints {xs : List Int} (h : ∀ x ∈ xs, Bd 1000 x) (hl : xs.length ≤ 1000) : nice (.tuple (xs.map PyData.int)) = true := by
  unfold nice
  simp only [PyData.showable, showable_ints xs h, PyData.hasDict, noDict_ints, PyData.depth, depth_ints, PyData.leavesShort, short_ints xs h, PyData.bulk, bulk_ints, decide_eq_true hl]
  rfl
theorem nice_lints {xs : List Int} (h : ∀ x ∈ xs, Bd 1000 x) (hl : xs.length ≤ 1000) : nice (.list (xs.map PyData.int)) = true := by
  unfold nice
  simp only [PyData.showable, showable_ints xs h, PyData.hasDict, noDict_ints, PyData.depth, depth_ints, PyData.leavesShort, short_ints xs h, PyData.bulk, bulk_ints, decide_eq_true hl]
  rfl
theorem like_tints {xs : List Int} {S : Store} (h : ∀ x ∈ xs, Bd 1000 x) (hl : xs.length ≤ 1000) : fn__law_like [.tup (xs.map D.int), .tup (xs.map D.int)] S = .ok (.bl true) S :=
  law_like_ok (.inl ⟨_, rfl⟩) (.inl ⟨_, rfl⟩) (pyD_tints 11 S xs) (pyD_tints 11 S xs) (nice_tints h hl)
theorem like_t3 {p : I3} {S : Store} (h : B3 1000 p) : fn__law_like [t3 p, t3 p] S = .ok (.bl true) S :=
  like_tints (xs := [p.1, p.2.1, p.2.2]) h.all (by show 3 ≤ 1000; decide)
theorem lcLoop_none {gg : GF} {tt : TF} {te : EF} {good : Store → Bool} {ρ0 : Rho} {S : Store} (hg : good S = true) : ∀ (items acc : List D), (∀ x ∈ items, ∃ ρ1, gg x ρ0 = some ρ1 ∧ tt ρ1 S = .ok false S) → lcLoop gg tt te good ρ0 items acc S = .ok acc S
  | [], acc, _ => by unfold lcLoop; rw [if_pos hg]
  | x :: xs, acc, h => by
    obtain ⟨ρ1, h1, h2⟩ := h x List.mem_cons_self
    unfold lcLoop
    rw [if_pos hg]
    simp only [h1, h2, Bool.false_eq_true, if_false]
    exact lcLoop_none hg xs acc fun y hy => h y (List.mem_cons_of_mem _ hy)
theorem kit_tt : kitB "tuple" "tuple" = some true := by decide +kernel
theorem kit_ib : kitB "int" "bool" = some false := by decide +kernel
theorem kit_ii : kitB "int" "int" = some true := by decide +kernel
theorem eIsi_of {T t : String} {f : EF} {ρ : Rho} {S S1 : Store} {d : D} {k : Bool} (e : f ρ S = .ok d S1) (h1 : tyD S1 d = some t) (h2 : kitB t T = some k) : eIsi T f ρ S = .ok (.bl k) S1 := by
  unfold eIsi; rw [e]; simp only [R.bind_ok, h1, h2]
theorem tOf_of {f : EF} {ρ : Rho} {S S1 : Store} {k : Bool} (e : f ρ S = .ok (.bl k) S1) : tOf f ρ S = .ok k S1 := by unfold tOf; rw [e]; rfl
theorem fNot_of {f : TF} {ρ : Rho} {S S1 : Store} {k : Bool} (e : f ρ S = .ok k S1) : fNot f ρ S = .ok (!k) S1 := by unfold fNot; rw [e]; rfl
theorem law_three_is_row_ok (xs : List Int) (S : Store) : ∃ S', fn__law_three_is_row [.tup (xs.map D.int), .int xs.length] S = .ok (.bl true) S' ∧ Grow S S' := by
  refine ⟨S ++ [.lst []] ++ [.lst []], ?_, (Grow.one _ _).trans (Grow.one _ _)⟩
  unfold fn__law_three_is_row body__law_three_is_row
  refine runDef_rt (ρ := [some (.tup (xs.map D.int)), some (.int xs.length), none]) rfl ?_
  have c1 : fNot (tOf (eIsi "tuple" (eVar 0))) [some (.tup (xs.map D.int)), some (.int xs.length), none] S = .ok false S := fNot_of (tOf_of (eIsi_of (t := "tuple") (S1 := S) rfl rfl kit_tt))
  have c2 : tOf (eOp (gEqD true) (eCall gLen (aCons (eVar 0) aNil)) (eVar 1)) [some (.tup (xs.map D.int)), some (.int xs.length), none] S = .ok false S := by
    refine tOf_of ?_
    rw [eOp_of (x := .int (xs.map D.int).length) (y := .int xs.length) (S1 := S) (S2 := S) rfl rfl, eq_ints']
    simp
  rw [sSeq_nx (ρ' := [some (.tup (xs.map D.int)), some (.int xs.length), none]) (S' := S) (by rw [sIf_of (tOr c1 c2 rfl)]; rfl)]
  refine sRet_of ?_
  have el : eLC (iSeq (eVar 0)) [2] (gN 2) (fOr (tOf (eIsi "bool" (eVar 2))) (fNot (tOf (eIsi "int" (eVar 2))))) (eC (.int 1)) [some (.tup (xs.map D.int)), some (.int xs.length), none] S = .ok (.ob S.length) (S ++ [.lst []]) := by
    unfold eLC
    have er : iSeq (eVar 0) [some (.tup (xs.map D.int)), some (.int xs.length), none] S = .ok (xs.map D.int, noChk) S := rfl
    rw [er]; simp only [R.bind_ok]
    rw [lcLoop_none (by rfl)]
    · rfl
    · intro x hx
      obtain ⟨i, hi, rfl⟩ := int_of_mem hx
      refine ⟨[some (.tup (xs.map D.int)), some (.int xs.length), some (.int i)], rfl, ?_⟩
      exact tOr (tOf_of (eIsi_of (t := "int") (S1 := S) rfl rfl kit_ib)) (fNot_of (tOf_of (eIsi_of (t := "int") (S1 := S) rfl rfl kit_ii))) rfl
  rw [eOp_of (x := .ob S.length) (y := .ob (S.length + 1)) (S1 := S ++ [.lst []]) (S2 := S ++ [.lst []] ++ [.lst []]) el (by
    have := eLst_of (f := aNil) (ρ := [some (.tup (xs.map D.int)), some (.int xs.length), none]) (S := S ++ [O.lst []]) (S1 := S ++ [O.lst []]) (xs := []) rfl (by simp)
    rw [this]; simp)]
  rw [eq_lsts (xs := []) (ys := []) (by simp) (by simp)]
  rfl
def scaledZ (v w : I3) (c : Int) (p : I3) : I3 := plus3 (c * v.1, c * v.2.1, c * v.2.2) 1 (crossZ w p)
theorem lcMul {gg : GF} {te : EF} {S : Store} {ρ0 : Rho} {xs : List Int} {c : Int} (hl : xs.length ≤ 1000) (h : ∀ x ∈ xs, ∃ ρ1, gg (.int x) ρ0 = some ρ1 ∧ te ρ1 S = .ok (.int (c * x)) S) : lcLoop gg tAll te noChk ρ0 (xs.map D.int) [] S = .ok ((xs.map fun x => c * x).map D.int) S := by
  rw [lcLoop_pure (f := fun d => match d with | .int i => .int (c * i) | d => d) (by rfl) _ _ (by have : LIM = 16777216 := rfl; simp; omega)]
  · rw [List.nil_append, List.map_map, List.map_map]; rfl
  · intro x hx
    obtain ⟨i, hi, rfl⟩ := int_of_mem hx
    exact h i hi
theorem law_scaled_ok {v w p : I3} {c : Int} (S : Store) (hv : B3 1000 v) (hc : Bd 1000 c) (hw : B3 1000 w) (hp : B3 1000 p) : ∃ S', fn__law_scaled [t6 v w, .int c, t3 p] S = .ok (t3 (scaledZ v w c p)) S' ∧ Grow S S' := by
  let ρ : Rho := [some (t6 v w), some (.int c), some (t3 p), none]
  have el : eLC (iSeq (eSl (eVar 0) pNone (pSome (eC (.int 3))))) [3] (gN 3) tAll (eOp gMul (eVar 1) (eVar 3)) ρ S = .ok (.ob S.length) (S ++ [.lst [.int (c * v.1), .int (c * v.2.1), .int (c * v.2.2)]]) := by
    unfold eLC
    have er : iSeq (eSl (eVar 0) pNone (pSome (eC (.int 3)))) ρ S = .ok ([v.1, v.2.1, v.2.2].map D.int, noChk) S := rfl
    rw [er]; simp only [R.bind_ok]
    rw [lcMul (c := c) (by show 3 ≤ 1000; decide)]
    · rfl
    · intro x hx
      refine ⟨[some (t6 v w), some (.int c), some (t3 p), some (.int x)], rfl, ?_⟩
      rw [eOp_of (x := .int c) (y := .int x) (S1 := S) (S2 := S) rfl rfl]
      exact gMul_bd hc (hv.all x hx) (by decide) (by decide) (by decide) S
  obtain ⟨S1, e1, g1⟩ := cross3_ok (p := w) (q := p) (S ++ [.lst [.int (c * v.1), .int (c * v.2.1), .int (c * v.2.2)]]) (hw.mono (by decide)) (hp.mono (by decide))
  have bc : B3 2001 (crossZ w p) := cross_bd hw hp
  obtain ⟨S2, e2, g2⟩ := law_three_plus_ok (a := .ob S.length) (b := t3 (crossZ w p)) (xs := [c * v.1, c * v.2.1, c * v.2.2]) (ys := [(crossZ w p).1, (crossZ w p).2.1, (crossZ w p).2.2]) (t := 1) (S := S1)
    (by
      have : S1[S.length]? = some (.lst [.int (c * v.1), .int (c * v.2.1), .int (c * v.2.2)]) := g1.get (by simp)
      simp only [asQ, asL, this]; rfl) rfl (by show 3 ≤ 1000; decide) ((Bd.of (a := 10) (by decide) (by decide)).mono (by decide)) (fun y hy => (bc.all y hy).mono (by decide))
  refine ⟨S2, ?_, (Grow.one _ _).trans (g1.trans g2)⟩
  unfold fn__law_scaled body__law_scaled
  refine runDef_rt (ρ := ρ) rfl (sRet_of ?_)
  rw [eFn_of (n := 3) (xs := [.ob S.length, .int 1, t3 (crossZ w p)]) (S1 := S1) (aCons_of el (aCons_of (S1 := S ++ [.lst [.int (c * v.1), .int (c * v.2.1), .int (c * v.2.2)]]) rfl (aCons1 ?_))) rfl]
  · exact e2
  · rw [eFn_of (n := 2) (xs := [t3 w, t3 p]) (S1 := S ++ [.lst [.int (c * v.1), .int (c * v.2.1), .int (c * v.2.2)]]) (aCons_of (S1 := S ++ [.lst [.int (c * v.1), .int (c * v.2.1), .int (c * v.2.2)]]) rfl rfl) rfl]
    exact e1
end Z

set_option Elab.async false
set_option linter.all false
set_option maxRecDepth 100000
set_option maxHeartbeats 1000000
namespace Z
local instance : Tabs := ⟨[]⟩
open PySem L2
def body__law_axis_right : SF := (sSeq (sIf (fOr (fNot (tOf (eIsi "tuple" (eVar 1)))) (fOr (tOf (eOp (gEqD true) (eCall gLen (aCons (eVar 1) aNil)) (eC (.int 3)))) (fOr (fNot (tOf (eFn 2 fn__law_three_is_row (aCons (eTup (aCons (eOp gIx (eVar 1) (eC (.int 0))) aNil)) (aCons (eC (.int 1)) aNil))))) (tOf (eOp gLt (eOp gIx (eVar 1) (eC (.int 0))) (eC (.int 1)))))))
  (sRet (eC (.bl false)))
  sNil)
  (sSeq (sAsg (gTupD 3 (gsCons (gN 3) (gsCons (gN 4) (gsCons (gN 5) gsNil)))) (eVar 1))
  (sSeq (sIf (fOr (fNot (tOf (eFn 2 fn__law_three_is_row (aCons (eVar 4) (aCons (eC (.int 3)) aNil))))) (tOf (eOp (gEqD true) (eCall gListOf (aCons (eOp gAdd (eTup (aCons (eVar 3) aNil)) (eVar 4)) aNil)) (eFn 1 fn__law_four_short (aCons (eOp gAdd (eTup (aCons (eVar 3) aNil)) (eVar 4)) aNil)))))
  (sRet (eC (.bl false)))
  sNil)
  (sSeq (sSet 6 (eSl (eVar 0) (pSome (eC (.int 3))) pNone))
  (sSeq (sIf (fNot (tOf (eFn 2 fn__law_like (aCons (eVar 5) (aCons (eCall gTupOf (aCons (eFn 1 fn__law_four_short (aCons (eVar 6) aNil)) aNil)) aNil)))))
  (sRet (eC (.bl false)))
  sNil)
  (sSeq (sIf (tOf (eOp (gEqD true) (eFn 2 fn__law_three_dot (aCons (eVar 4) (aCons (eVar 6) aNil))) (eC (.int 0))))
  (sRet (eC (.bl false)))
  sNil)
  (sSeq (sIf (fOr (fNot (tOf (eFn 2 fn__law_three_is_row (aCons (eVar 2) (aCons (eC (.int 2)) aNil))))) (fOr (tOf (eOp gLt (eOp gIx (eVar 2) (eC (.int 1))) (eC (.int 1)))) (tOf (eOp (gEqD true) (eCall gListOf (aCons (eVar 2) aNil)) (eFn 1 fn__law_four_short (aCons (eVar 2) aNil))))))
  (sRet (eC (.bl false)))
  sNil)
  (sSeq (sIf (tOf (eOp (gEqD true) (eOp gMul (eOp gIx (eVar 2) (eC (.int 0))) (eFn 2 fn__law_three_dot (aCons (eVar 6) (aCons (eVar 6) aNil)))) (eOp gMul (eOp gIx (eVar 2) (eC (.int 1))) (eFn 2 fn__law_three_dot (aCons (eSl (eVar 0) pNone (pSome (eC (.int 3)))) (aCons (eVar 6) aNil))))))
  (sRet (eC (.bl false)))
  sNil)
  (sSeq (sFor (iLst (eLst (aCons (eC (.int 0)) (aCons (eC (.int 1)) (aCons (eNeg (eC (.int 3))) aNil))))) (gN 7)
  (sSeq (sSet 8 (eFn 3 fn__law_three_plus (aCons (eVar 4) (aCons (eOp gMul (eVar 7) (eVar 3)) (aCons (eVar 5) aNil)))))
  (sSeq (sSet 9 (eFn 3 fn__law_scaled (aCons (eVar 0) (aCons (eVar 3) (aCons (eVar 8) aNil)))))
  (sIf (tOf (eOp (gEqD true) (eLC (iSeq (eVar 9)) [10] (gN 10) tAll (eOp gMul (eOp gIx (eVar 2) (eC (.int 1))) (eVar 10))) (eLC (iSeq (eVar 6)) [10] (gN 10) tAll (eOp gMul (eOp gMul (eOp gIx (eVar 2) (eC (.int 0))) (eVar 3)) (eVar 10)))))
  (sRet (eC (.bl false)))
  sNil))))
  (sRet (eC (.bl true))))))))))))
@[irreducible] def fn__law_axis_right : Fn := runDef 11 body__law_axis_right
theorem fn__law_axis_right_eq : fn__law_axis_right = runDef 11 body__law_axis_right := by unfold fn__law_axis_right; rfl
def besideB (fn_velocity : Fn) : SF := (sSeq (sSet 3 (eSl (eVar 1) (pSome (eC (.int 3))) pNone))
  (sSeq (sFor (iR1 (aCons (eC (.int 3)) aNil)) (gN 4)
  (sSeq (sSet 5 (eFn 3 fn__law_four_place (aCons (eVar 0) (aCons (eC (.int 6)) (aCons (eFn 2 fn__law_of (aCons (eVar 0) (aCons (eLst (aCons (eC (.int 1)) (aCons (eC (.int 5)) (aCons (eOp gPow (eC (.int 10)) (eC (.int 6))) aNil)))) aNil))) aNil)))))
  (sSeq (sSet 6 (eFn 3 fn_velocity (aCons (eC (.int 6)) (aCons (eVar 1) (aCons (eVar 5) aNil)))))
  (sSeq (sIf (fNot (tOf (eFn 2 fn__law_like (aCons (eVar 6) (aCons (eFn 3 fn__law_scaled (aCons (eVar 1) (aCons (eC (.int 1)) (aCons (eVar 5) aNil)))) aNil)))))
  (sRet (eC (.bl false)))
  sNil)
  (sSeq (sSet 7 (eOp (gEqD false) (eFn 2 fn__law_three_cross (aCons (eVar 3) (aCons (eVar 6) aNil))) (eTup (aCons (eC (.int 0)) (aCons (eC (.int 0)) (aCons (eC (.int 0)) aNil))))))
  (sSeq (sSet 8 (eOp gSub (eOp gMul (eOp gPow (eOp gIx (eVar 2) (eC (.int 1))) (eC (.int 2))) (eFn 2 fn__law_three_dot (aCons (eVar 6) (aCons (eVar 6) aNil)))) (eOp gMul (eOp gPow (eOp gIx (eVar 2) (eC (.int 0))) (eC (.int 2))) (eFn 2 fn__law_three_dot (aCons (eVar 3) (aCons (eVar 3) aNil))))))
  (sIf (fOr (tOf (eOp gLt (eVar 8) (eC (.int 0)))) (tOf (eOp (gEqD true) (eOp (gEqD false) (eVar 8) (eC (.int 0))) (eVar 7))))
  (sRet (eC (.bl false)))
  sNil)))))))
  (sRet (eC (.bl true)))))
def heardB (fn_axis fn_pitch : Fn) : SF := (sSeq (sSet 2 (eC (.str "nothing")))
  (sSeq (sTryAs "BadRow" [] 3
  (sIf (tOf (eOp (gEqD false) (eVar 0) (eC (.int 0))))
  (sExpr (eFn 1 fn_axis (aCons (eVar 1) aNil)))
  (sExpr (eFn 1 fn_pitch (aCons (eVar 1) aNil))))
  (fun fs => (sSet 2 (eTup (aCons (eXf fs "index") (aCons (eC (.bl true)) aNil))))))
  (sRet (eVar 2))))
def lawB (fn_axis fn_pitch fn__law_beside_right fn__law_heard : Fn) : SF := (sSeq (sSet 1 (eFn 1 fn__law_begun (aCons (eVar 0) aNil)))
  (sSeq (sFor (iR1 (aCons (eC (.int 2)) aNil)) (gN 2)
  (sSeq (sSet 3 (eFn 1 fn__law_motion (aCons (eVar 1) aNil)))
  (sSeq (sPar 4 5 (aCons (eFn 1 fn_axis (aCons (eVar 3) aNil)) (aCons (eFn 1 fn_pitch (aCons (eVar 3) aNil)) aNil)))
  (sSeq (sIf (tOf (eOp (gEqD false) (eSl (eVar 3) (pSome (eC (.int 3))) pNone) (eTup (aCons (eC (.int 0)) (aCons (eC (.int 0)) (aCons (eC (.int 0)) aNil))))))
  (sIf (fNot (tOf (eFn 2 fn__law_like (aCons (eLst (aCons (eVar 4) (aCons (eVar 5) aNil))) (aCons (eLst (aCons (eC .non) (aCons (eC .non) aNil))) aNil)))))
  (sRet (eC (.bl false)))
  sNil)
  (sIf (fOr (fNot (tOf (eFn 3 fn__law_axis_right (aCons (eVar 3) (aCons (eVar 4) (aCons (eVar 5) aNil)))))) (fNot (tOf (eFn 3 fn__law_beside_right (aCons (eVar 1) (aCons (eVar 3) (aCons (eVar 5) aNil)))))))
  (sRet (eC (.bl false)))
  sNil))
  (sSeq (sSet 6 (eFn 2 fn__law_three_bad (aCons (eVar 1) (aCons (eVar 3) aNil))))
  (sIf (fNot (tOf (eFn 2 fn__law_like (aCons (eLst (aCons (eFn 2 fn__law_heard (aCons (eC (.int 0)) (aCons (eVar 6) aNil))) (aCons (eFn 2 fn__law_heard (aCons (eC (.int 1)) (aCons (eVar 6) aNil))) aNil))) (aCons (eLst (aCons (eTup (aCons (eC (.int 0)) (aCons (eC (.bl true)) aNil))) (aCons (eTup (aCons (eC (.int 0)) (aCons (eC (.bl true)) aNil))) aNil))) aNil)))))
  (sRet (eC (.bl false)))
  sNil))))))
  (sRet (eC (.bl true)))))
theorem loop_nil {gg : GF} {chk : Store → Bool} {body : SF} {ρ : Rho} {S : Store} (hc : chk S = true) : loop gg chk body [] ρ S = .nx ρ S := by
  unfold loop; simp only [if_pos hc]
theorem loop_nx {gg : GF} {chk : Store → Bool} {body : SF} {x : D} {xs : List D} {ρ ρ1 ρ2 : Rho} {S S2 : Store} (hc : chk S = true) (h1 : gg x ρ = some ρ1) (h2 : body ρ1 S = .nx ρ2 S2) : loop gg chk body (x :: xs) ρ S = loop gg chk body xs ρ2 S2 := by
  rw [loop.eq_def]; simp only [if_pos hc, h1, h2]
theorem skip {c : TF} {r h : SF} {ρ : Rho} {S S1 : Store} (e : c ρ S = .ok false S1) : sSeq (sIf c r sNil) h ρ S = h ρ S1 :=
  sSeq_nx (by rw [sIf_of e, if_neg Bool.false_ne_true]; rfl)
theorem or_ff {f g : TF} {ρ : Rho} {S S1 S2 : Store} (h1 : f ρ S = .ok false S1) (h2 : g ρ S1 = .ok false S2) : fOr f g ρ S = .ok false S2 := by
  unfold fOr; rw [h1]; simp only [R.bind_ok, Bool.false_eq_true, if_false]; exact h2
theorem not_t {f : EF} {ρ : Rho} {S S1 : Store} (e : f ρ S = .ok (.bl true) S1) : fNot (tOf f) ρ S = .ok false S1 := fNot_of (tOf_of e)
theorem neqI {fa fb : EF} {ρ : Rho} {S S1 S2 : Store} {i j : Int} (h1 : fa ρ S = .ok (.int i) S1) (h2 : fb ρ S1 = .ok (.int j) S2) (h : i = j) : tOf (eOp (gEqD true) fa fb) ρ S = .ok false S2 := by
  refine tOf_of ?_
  rw [eOp_of h1 h2, eq_ints', decide_eq_true h]; rfl
theorem ltI {fa fb : EF} {ρ : Rho} {S S1 S2 : Store} {i j : Int} (h1 : fa ρ S = .ok (.int i) S1) (h2 : fb ρ S1 = .ok (.int j) S2) (h : j ≤ i) : tOf (eOp gLt fa fb) ρ S = .ok false S2 := by
  refine tOf_of ?_
  rw [eOp_of h1 h2]
  show R.ok (D.bl (decide (i < j))) S2 = _
  rw [decide_eq_false (by omega)]
theorem neqL {fa fb : EF} {ρ : Rho} {S S1 S2 : Store} {k l : Nat} {xs : List Int} (h1 : fa ρ S = .ok (.ob k) S1) (h2 : fb ρ S1 = .ok (.ob l) S2) (e1 : S2[k]? = some (.lst (xs.map D.int))) (e2 : S2[l]? = some (.lst (xs.map D.int))) : tOf (eOp (gEqD true) fa fb) ρ S = .ok false S2 := by
  refine tOf_of ?_
  rw [eOp_of h1 h2, eq_lsts e1 e2]; simp
theorem fn1 {fn : Fn} {f : EF} {ρ : Rho} {S S1 S2 : Store} {a r : D} (h : f ρ S = .ok a S1) (e : fn [a] S1 = .ok r S2) : eFn 1 fn (aCons f aNil) ρ S = .ok r S2 := by
  rw [eFn_of (n := 1) (aCons1 h) rfl]; exact e
theorem fn2 {fn : Fn} {f g : EF} {ρ : Rho} {S S1 S2 S3 : Store} {a b r : D} (h : f ρ S = .ok a S1) (k : g ρ S1 = .ok b S2) (e : fn [a, b] S2 = .ok r S3) : eFn 2 fn (aCons f (aCons g aNil)) ρ S = .ok r S3 := by
  rw [eFn_of (n := 2) (aCons_of h (aCons1 k)) rfl]; exact e
theorem fn3 {fn : Fn} {f g h' : EF} {ρ : Rho} {S S1 S2 S3 S4 : Store} {a b c r : D} (h : f ρ S = .ok a S1) (k : g ρ S1 = .ok b S2) (l : h' ρ S2 = .ok c S3) (e : fn [a, b, c] S3 = .ok r S4) : eFn 3 fn (aCons f (aCons g (aCons h' aNil))) ρ S = .ok r S4 := by
  rw [eFn_of (n := 3) (aCons_of h (aCons_of k (aCons1 l))) rfl]; exact e
theorem call1 {g : List D → Store → R D} {f : EF} {ρ : Rho} {S S1 S2 : Store} {a r : D} (h : f ρ S = .ok a S1) (e : g [a] S1 = .ok r S2) : eCall g (aCons f aNil) ρ S = .ok r S2 := by
  unfold eCall; rw [aCons1 h]; exact e
def sc3 (k : Int) (p : I3) : I3 := (k * p.1, k * p.2.1, k * p.2.2)
/-- [k * number for number in row] with the number k from an expression -/
theorem lc_times {fi fk : EF} {ρ : Rho} {S : Store} {q : I3} {k : Int} {r0 : Rho} (hs : iSeq fi ρ S = .ok ([q.1, q.2.1, q.2.2].map D.int, noChk) S) (hw : wipeD ρ [10] = r0) (hl : ∀ x : Int, (r0.set 10 (some (.int x)))[10]? = some (some (.int x))) (hk : ∀ x : Int, fk (r0.set 10 (some (.int x))) S = .ok (.int k) S) (hq : B3 400000 q) (hb : Bd 400000 k) :
    eLC (iSeq fi) [10] (gN 10) tAll (eOp gMul fk (eVar 10)) ρ S = .ok (.ob S.length) (S ++ [.lst ([k * q.1, k * q.2.1, k * q.2.2].map D.int)]) := by
  unfold eLC
  rw [hs]; simp only [R.bind_ok]
  rw [hw, lcMul (c := k) (by show 3 ≤ 1000; decide)]
  · rfl
  · intro x hx
    refine ⟨r0.set 10 (some (.int x)), rfl, ?_⟩
    rw [eOp_of (x := .int k) (y := .int x) (S1 := S) (S2 := S) (hk x) (by unfold eVar; rw [hl])]
    exact gMul_bd hb (hq.all x hx) (by decide) (by decide) (by decide) S
abbrev turnBody : SF := (sSeq (sSet 8 (eFn 3 fn__law_three_plus (aCons (eVar 4) (aCons (eOp gMul (eVar 7) (eVar 3)) (aCons (eVar 5) aNil)))))
  (sSeq (sSet 9 (eFn 3 fn__law_scaled (aCons (eVar 0) (aCons (eVar 3) (aCons (eVar 8) aNil)))))
  (sIf (tOf (eOp (gEqD true) (eLC (iSeq (eVar 9)) [10] (gN 10) tAll (eOp gMul (eOp gIx (eVar 2) (eC (.int 1))) (eVar 10))) (eLC (iSeq (eVar 6)) [10] (gN 10) tAll (eOp gMul (eOp gMul (eOp gIx (eVar 2) (eC (.int 0))) (eVar 3)) (eVar 10)))))
  (sRet (eC (.bl false)))
  sNil)))
def fnd (c : Int) (nu wy : I3) : D := .tup [.int c, t3 nu, t3 wy]
def two (a b : Int) : D := .tup [.int a, .int b]
theorem turn_ok {v w nu wy : I3} {c t0 t1 s : Int} (hv : B3 100 v) (hw : B3 100 w) (hn : B3 300 nu) (hy : B3 300 wy) (hc : Bd 300 c) (h0 : Bd 300 t0) (h1 : Bd 300 t1) (hs : Bd 10 s)
    (h : sc3 t1 (scaledZ v w c (plus3 nu (s * c) wy)) = sc3 (t0 * c) w) (p8 p9 p10 : Option D) (S : Store) : ∃ a b S', turnBody [some (t6 v w), some (fnd c nu wy), some (two t0 t1), some (.int c), some (t3 nu), some (t3 wy), some (t3 w), some (.int s), p8, p9, p10] S = .nx [some (t6 v w), some (fnd c nu wy), some (two t0 t1), some (.int c), some (t3 nu), some (t3 wy), some (t3 w), some (.int s), a, b, p10] S' ∧ Grow S S' := by
  have bsc : Bd 310 (s * c) := hs.mul hc
  obtain ⟨S1, e1, g1⟩ := plus3_ok (p := nu) (q := wy) (t := s * c) S (bsc.mono (by decide)) (hy.mono (by decide))
  have bp : B3 701 (plus3 nu (s * c) wy) := plus3_bd (a := 700) (hn.mono (by decide)) hy bsc (by decide)
  obtain ⟨S2, e2, g2⟩ := law_scaled_ok (v := v) (w := w) (c := c) (p := plus3 nu (s * c) wy) S1 (hv.mono (by decide)) (hc.mono (by decide)) (hw.mono (by decide)) (bp.mono (by decide))
  have bf : B3 3000 (scaledZ v w c (plus3 nu (s * c) wy)) := by
    have k1 : B3 400 (c * v.1, c * v.2.1, c * v.2.2) := ⟨hc.mul hv.1, hc.mul hv.2.1, hc.mul hv.2.2⟩
    have k2 : B3 802 (crossZ w (plus3 nu (s * c) wy)) := cross_bd hw bp
    exact (plus3_bd (a := 1000) (b := 802) (c := 10) (k1.mono (by decide)) k2 (Bd.of (by decide) (by decide)) (by decide)).mono (by decide)
  generalize scaledZ v w c (plus3 nu (s * c) wy) = f at h e2 bf
  refine ⟨some (t3 (plus3 nu (s * c) wy)), some (t3 f), S2 ++ [.lst ([t1 * f.1, t1 * f.2.1, t1 * f.2.2].map D.int)] ++ [.lst ([t0 * c * w.1, t0 * c * w.2.1, t0 * c * w.2.2].map D.int)], ?_, g1.trans (g2.trans ((Grow.one _ _).trans (Grow.one _ _)))⟩
  unfold turnBody
  rw [sSeq_nx (sSet_of (i := 8) (d := t3 (plus3 nu (s * c) wy)) (S1 := S1) (fn3 (S1 := S) (S2 := S) (S3 := S) rfl (by rw [eOp_of (x := .int s) (y := .int c) (S1 := S) (S2 := S) rfl rfl]; exact gMul_bd hs hc (by decide) (by decide) (by decide) S) rfl e1))]
  simp only [List.set_cons_succ, List.set_cons_zero]
  rw [sSeq_nx (sSet_of (i := 9) (d := t3 f) (S1 := S2) (fn3 (S1 := S1) (S2 := S1) (S3 := S1) rfl rfl rfl e2))]
  simp only [List.set_cons_succ, List.set_cons_zero]
  have l1 := lc_times (fi := eVar 9) (fk := eOp gIx (eVar 2) (eC (.int 1))) (ρ := [some (t6 v w), some (fnd c nu wy), some (two t0 t1), some (.int c), some (t3 nu), some (t3 wy), some (t3 w), some (.int s), some (t3 (plus3 nu (s * c) wy)), some (t3 f), p10]) (S := S2) (q := f) (k := t1) rfl rfl (fun _ => rfl) (fun _ => rfl) (bf.mono (by decide)) (h1.mono (by decide))
  have l2 := lc_times (fi := eVar 6) (fk := eOp gMul (eOp gIx (eVar 2) (eC (.int 0))) (eVar 3)) (ρ := [some (t6 v w), some (fnd c nu wy), some (two t0 t1), some (.int c), some (t3 nu), some (t3 wy), some (t3 w), some (.int s), some (t3 (plus3 nu (s * c) wy)), some (t3 f), p10]) (S := S2 ++ [.lst ([t1 * f.1, t1 * f.2.1, t1 * f.2.2].map D.int)]) (q := w) (k := t0 * c) rfl rfl (fun _ => rfl) (fun x => by
    rw [eOp_of (x := .int t0) (y := .int c) (S1 := S2 ++ [.lst ([t1 * f.1, t1 * f.2.1, t1 * f.2.2].map D.int)]) (S2 := S2 ++ [.lst ([t1 * f.1, t1 * f.2.1, t1 * f.2.2].map D.int)]) rfl rfl]
    exact gMul_bd h0 hc (by decide) (by decide) (by decide) _) (hw.mono (by decide)) ((h0.mul hc).mono (by decide))
  have eq : [t1 * f.1, t1 * f.2.1, t1 * f.2.2] = [t0 * c * w.1, t0 * c * w.2.1, t0 * c * w.2.2] := by
    have := h
    unfold sc3 at this
    simp only [Prod.mk.injEq] at this
    rw [this.1, this.2.1, this.2.2]
  rw [sIf_of (neqL (xs := [t1 * f.1, t1 * f.2.1, t1 * f.2.2]) l1 l2 (by simp) (by rw [eq]; simp)), if_neg Bool.false_ne_true]
  rfl

theorem like_of {a b : D} {S : Store} {xs : List Int} (ha : a = .tup (xs.map D.int)) (hb : b = .tup (xs.map D.int)) (h : ∀ x ∈ xs, Bd 1000 x) (hl : xs.length ≤ 1000) : fn__law_like [a, b] S = .ok (.bl true) S := by
  subst ha; subst hb; exact like_tints h hl
theorem is_row_of {d : D} {xs : List Int} {l : Int} (S : Store) (hd : d = .tup (xs.map D.int)) (hl : l = xs.length) : ∃ S', fn__law_three_is_row [d, .int l] S = .ok (.bl true) S' ∧ Grow S S' := by
  subst hd; subst hl; exact law_three_is_row_ok xs S
theorem with_count {ρ : Rho} {c : Int} {nu : I3} (S : Store) (h3 : ρ[3]? = some (some (.int c))) (h4 : ρ[4]? = some (some (t3 nu))) : eOp gAdd (eTup (aCons (eVar 3) aNil)) (eVar 4) ρ S = .ok (.tup [.int c, .int nu.1, .int nu.2.1, .int nu.2.2]) S := by
  have a : eVar 3 ρ S = .ok (.int c) S := by unfold eVar; rw [h3]
  have b : eVar 4 ρ S = .ok (t3 nu) S := by unfold eVar; rw [h4]
  rw [eOp_of (eTup_of (aCons1 a) (by simp)) b]
  exact gAdd_tup (by show 1 + 3 ≤ 1000; decide) S
theorem law_axis_right_ok {v w nu wy : I3} {c t0 t1 : Int} (hv : B3 100 v) (hw : B3 100 w) (hn : B3 300 nu) (hy : B3 300 wy) (hc : Bd 300 c) (h0 : Bd 300 t0) (h1 : Bd 300 t1)
    (c1 : 1 ≤ c) (q1 : shortZ [c, nu.1, nu.2.1, nu.2.2] = [c, nu.1, nu.2.1, nu.2.2]) (q2 : shortZ [w.1, w.2.1, w.2.2] = [wy.1, wy.2.1, wy.2.2]) (q3 : dot3 nu w = 0) (c2 : 1 ≤ t1) (q4 : shortZ [t0, t1] = [t0, t1]) (q5 : t0 * dot3 w w = t1 * dot3 v w)
    (q6 : ∀ s ∈ ([0, 1, -3] : List Int), sc3 t1 (scaledZ v w c (plus3 nu (s * c) wy)) = sc3 (t0 * c) w) (S : Store) :
    ∃ S', fn__law_axis_right [t6 v w, fnd c nu wy, two t0 t1] S = .ok (.bl true) S' ∧ Grow S S' := by
  unfold fn__law_axis_right body__law_axis_right
  -- found
  obtain ⟨S1, e1, g1⟩ := is_row_of (d := .tup [.int c]) (xs := [c]) (l := 1) S rfl rfl
  -- numbers
  obtain ⟨S2, e2, g2⟩ := is_row_of (d := t3 nu) (xs := [nu.1, nu.2.1, nu.2.2]) (l := 3) S1 rfl rfl
  obtain ⟨k3, S3, e3, i3, g3⟩ := law_four_short_ok (a := .tup [.int c, .int nu.1, .int nu.2.1, .int nu.2.2]) (xs := [c, nu.1, nu.2.1, nu.2.2]) (S := S2 ++ [.lst ([c, nu.1, nu.2.1, nu.2.2].map D.int)]) rfl (by show 4 ≤ 1000; decide) (by
    intro x hx
    rcases List.mem_cons.mp hx with rfl | hx
    · exact hc.mono (by decide)
    · exact (hn.all x hx).mono (by decide))
  rw [q1] at i3
  -- way
  obtain ⟨k4, S4, e4, i4, g4⟩ := law_four_short_ok (a := t3 w) (xs := [w.1, w.2.1, w.2.2]) (S := S3) rfl (by show 3 ≤ 1000; decide) (fun x hx => (hw.all x hx).mono (by decide))
  rw [q2] at i4
  -- the nearest point
  obtain ⟨S5, e5, g5⟩ := dot3_ok (p := nu) (q := w) S4 (hn.mono (by decide)) (hw.mono (by decide))
  rw [q3] at e5
  -- told
  obtain ⟨S6, e6, g6⟩ := is_row_of (d := two t0 t1) (xs := [t0, t1]) (l := 2) S5 rfl rfl
  obtain ⟨k7, S7, e7, i7, g7⟩ := law_four_short_ok (a := two t0 t1) (xs := [t0, t1]) (S := S6 ++ [.lst ([t0, t1].map D.int)]) rfl (by show 2 ≤ 1000; decide) (by
    intro x hx
    simp only [List.mem_cons, List.not_mem_nil, or_false] at hx
    rcases hx with rfl | rfl
    · exact h0.mono (by decide)
    · exact h1.mono (by decide))
  rw [q4] at i7
  obtain ⟨S8, e8, g8⟩ := dot3_ok (p := w) (q := w) S7 (hw.mono (by decide)) (hw.mono (by decide))
  obtain ⟨S9, e9, g9⟩ := dot3_ok (p := v) (q := w) S8 (hv.mono (by decide)) (hw.mono (by decide))
  have b8 : Bd 202 (dot3 w w) := dot3_bd hw hw
  have b9 : Bd 202 (dot3 v w) := dot3_bd hv hw
  have i3' : S3[S2.length]? = some (.lst ([c, nu.1, nu.2.1, nu.2.2].map D.int)) := g3.get (at_last S2 (.lst ([c, nu.1, nu.2.1, nu.2.2].map D.int)))
  have i7' : S7[S6.length]? = some (.lst ([t0, t1].map D.int)) := g7.get (at_last S6 (.lst ([t0, t1].map D.int)))
  let SL := S9 ++ [O.lst [.int 0, .int 1, .int (-3)]]
  -- the loop
  have hlp : ∃ ρ' S', loop (gN 7) (chkL (.ob S9.length) ([0, 1, -3].map D.int)) turnBody ([0, 1, -3].map D.int) [some (t6 v w), some (fnd c nu wy), some (two t0 t1), some (.int c), some (t3 nu), some (t3 wy), some (t3 w), none, none, none, none] SL = .nx ρ' S' ∧ Grow SL S' := by
    have gen : ∀ (l : List Int), (∀ s ∈ l, s ∈ ([0, 1, -3] : List Int)) → ∀ (p7 p8 p9 : Option D) (T : Store), Grow SL T → ∃ ρ' S', loop (gN 7) (chkL (.ob S9.length) ([0, 1, -3].map D.int)) turnBody (l.map D.int) [some (t6 v w), some (fnd c nu wy), some (two t0 t1), some (.int c), some (t3 nu), some (t3 wy), some (t3 w), p7, p8, p9, none] T = .nx ρ' S' ∧ Grow SL S' := by
      intro l
      induction l with
      | nil =>
        intro _ p7 p8 p9 T gT
        refine ⟨[some (t6 v w), some (fnd c nu wy), some (two t0 t1), some (.int c), some (t3 nu), some (t3 wy), some (t3 w), p7, p8, p9, none], T, ?_, gT⟩
        exact loop_nil (by rw [chkL_ok]; simp only [asL, gT.get (at_last S9 _)]; rfl)
      | cons s l ih =>
        intro hs p7 p8 p9 T gT
        have bs : Bd 10 s := by
          have := hs s List.mem_cons_self
          simp only [List.mem_cons, List.not_mem_nil, or_false] at this
          exact Bd.of (by omega) (by omega)
        obtain ⟨a, b, T1, e, gt⟩ := turn_ok hv hw hn hy hc h0 h1 bs (q6 s (hs s List.mem_cons_self)) p8 p9 none T
        obtain ⟨ρ', S', e', g'⟩ := ih (fun x hx => hs x (List.mem_cons_of_mem _ hx)) (some (.int s)) a b T1 (gT.trans gt)
        refine ⟨ρ', S', ?_, g'⟩
        exact (loop_nx (by rw [chkL_ok]; simp only [asL, gT.get (at_last S9 _)]; rfl) rfl e).trans e'
    exact gen [0, 1, -3] (fun _ h => h) none none none SL (.refl _)
  obtain ⟨ρL, S10, e10, g10⟩ := hlp
  refine ⟨S10, runDef_rt (ρ := [some (t6 v w), some (fnd c nu wy), some (two t0 t1), none, none, none, none, none, none, none, none]) rfl ?_, g1.trans (g2.trans ((Grow.one _ _).trans (g3.trans (g4.trans (g5.trans (g6.trans ((Grow.one _ _).trans (g7.trans (g8.trans (g9.trans ((Grow.one _ _).trans g10)))))))))))⟩
  refine (skip (S1 := S1) (by exact (or_ff (S1 := S) (not_t (eIsi_of (t := "tuple") (S1 := S) rfl rfl kit_tt)) (or_ff (S1 := S) (neqI (i := 3) (S1 := S) rfl rfl rfl) (or_ff (S1 := S1) (not_t (fn2 (S1 := S) (S2 := S) rfl rfl e1)) (ltI (i := c) (j := 1) (S1 := S1) rfl rfl c1)))))).trans ?_
  refine (sSeq_nx (show sAsg (gTupD 3 (gsCons (gN 3) (gsCons (gN 4) (gsCons (gN 5) gsNil)))) (eVar 1) [some (t6 v w), some (fnd c nu wy), some (two t0 t1), none, none, none, none, none, none, none, none] S1 = .nx [some (t6 v w), some (fnd c nu wy), some (two t0 t1), some (.int c), some (t3 nu), some (t3 wy), none, none, none, none, none] S1 from rfl)).trans ?_
  refine (skip (S1 := S3) (by exact (or_ff (S1 := S2) (not_t (fn2 (S1 := S1) (S2 := S1) rfl rfl e2)) (neqL (xs := [c, nu.1, nu.2.1, nu.2.2]) (k := S2.length) (l := k3) (S1 := S2 ++ [.lst ([c, nu.1, nu.2.1, nu.2.2].map D.int)]) (call1 (S1 := S2) (a := .tup [.int c, .int nu.1, .int nu.2.1, .int nu.2.2]) (with_count _ rfl rfl) rfl) (fn1 (S1 := S2 ++ [.lst ([c, nu.1, nu.2.1, nu.2.2].map D.int)]) (a := .tup [.int c, .int nu.1, .int nu.2.1, .int nu.2.2]) (with_count _ rfl rfl) e3) i3' i3)))).trans ?_
  refine (sSeq_nx (show sSet 6 (eSl (eVar 0) (pSome (eC (.int 3))) pNone) [some (t6 v w), some (fnd c nu wy), some (two t0 t1), some (.int c), some (t3 nu), some (t3 wy), none, none, none, none, none] S3 = .nx [some (t6 v w), some (fnd c nu wy), some (two t0 t1), some (.int c), some (t3 nu), some (t3 wy), some (t3 w), none, none, none, none] S3 from rfl)).trans ?_
  refine (skip (S1 := S4) (by exact (not_t (fn2 (a := t3 wy) (b := t3 wy) (S1 := S3) (S2 := S4) rfl (call1 (S1 := S4) (a := .ob k4) (fn1 (S1 := S3) rfl e4) (by simp only [gTupOf, asL, i4]; rfl)) (like_t3 (hy.mono (by decide))))))).trans ?_
  refine (skip (S1 := S5) (by exact (neqI (i := 0) (j := 0) (S1 := S5) (fn2 (S1 := S4) (S2 := S4) rfl rfl e5) rfl rfl))).trans ?_
  refine (skip (S1 := S7) (by exact (or_ff (S1 := S6) (not_t (fn2 (S1 := S5) (S2 := S5) rfl rfl e6)) (or_ff (S1 := S6) (ltI (i := t1) (j := 1) (S1 := S6) rfl rfl c2) (neqL (xs := [t0, t1]) (k := S6.length) (l := k7) (S1 := S6 ++ [.lst ([t0, t1].map D.int)]) (call1 (S1 := S6) (a := two t0 t1) rfl rfl) (fn1 (S1 := S6 ++ [.lst ([t0, t1].map D.int)]) rfl e7) i7' i7))))).trans ?_
  refine (skip (S1 := S9) (by exact (neqI (i := t0 * dot3 w w) (j := t1 * dot3 v w) (S1 := S8)
    (by
      rw [eOp_of (x := .int t0) (y := .int (dot3 w w)) (S1 := S7) (S2 := S8) rfl (fn2 (S1 := S7) (S2 := S7) rfl rfl e8)]
      exact gMul_bd h0 b8 (by decide) (by decide) (by decide) S8)
    (by
      rw [eOp_of (x := .int t1) (y := .int (dot3 v w)) (S1 := S8) (S2 := S9) rfl (fn2 (S1 := S8) (S2 := S8) rfl rfl e9)]
      exact gMul_bd h1 b9 (by decide) (by decide) (by decide) S9) q5))).trans ?_
  refine (sSeq_nx (show sFor (iLst (eLst (aCons (eC (.int 0)) (aCons (eC (.int 1)) (aCons (eNeg (eC (.int 3))) aNil))))) (gN 7) turnBody [some (t6 v w), some (fnd c nu wy), some (two t0 t1), some (.int c), some (t3 nu), some (t3 wy), some (t3 w), none, none, none, none] S9 = .nx ρL S10 from ?_)).trans ?_
  · unfold sFor
    have e : iLst (eLst (aCons (eC (.int 0)) (aCons (eC (.int 1)) (aCons (eNeg (eC (.int 3))) aNil)))) [some (t6 v w), some (fnd c nu wy), some (two t0 t1), some (.int c), some (t3 nu), some (t3 wy), some (t3 w), none, none, none, none] S9 = .ok ([0, 1, -3].map D.int, chkL (.ob S9.length) ([0, 1, -3].map D.int)) SL := by
      unfold iLst
      rw [eLst_of (xs := [.int 0, .int 1, .int (-3)]) (S1 := S9) rfl (by show 3 ≤ 1000; decide)]
      simp only [R.bind_ok, asL, at_last]
      rfl
    rw [e]; simp only [R.to_ok]
    exact e10
  · rfl
end Z

set_option Elab.async false
set_option linter.all false
set_option maxRecDepth 100000
set_option maxHeartbeats 1000000
namespace Z
local instance : Tabs := ⟨[]⟩
open PySem L2
theorem gPow_sq {t : Int} (h : Bd 300 t) (S : Store) : gPow (.int t) (.int 2) S = .ok (.int (t * t)) S := by
  have hl := h.log (by decide)
  have e : t ^ (2 : Int).toNat = t * t := by
    show t ^ 2 = t * t
    rw [Int.pow_succ, Int.pow_succ, Int.pow_zero, Int.one_mul]
  unfold gPow gInt
  simp only
  by_cases a : (0 : Int) ≤ 2 ∧ (2 : Int) ≤ 1000000 ∧ t.natAbs < 2 ^ 64
  · simp only [if_pos a, e]
  · simp only [if_neg a]
    rw [if_pos ⟨by decide, by decide, by omega⟩]
    simp only [e]
theorem nz_of_pos {ww more t1 N : Int} (hw : 0 < ww) (ht : 1 ≤ t1) (hN : 0 ≤ N) (h : ww * more = t1 * t1 * N) : 0 ≤ more ∧ (more = 0 ↔ N = 0) := by
  have tt : 0 < t1 * t1 := Int.mul_pos (by omega) (by omega)
  have p : 0 ≤ t1 * t1 * N := Int.mul_nonneg (by omega) hN
  refine ⟨?_, ?_, ?_⟩
  · rcases Int.lt_or_le more 0 with k | k
    · have := Int.mul_neg_of_pos_of_neg hw k
      omega
    · exact k
  · intro k
    subst k
    rw [Int.mul_zero] at h
    rcases Int.mul_eq_zero.mp h.symm with z | z
    · omega
    · exact z
  · intro k
    subst k
    rw [Int.mul_zero] at h
    rcases Int.mul_eq_zero.mp h with z | z
    · omega
    · exact z
theorem sq_nonneg (a : Int) : 0 ≤ a * a := by
  rcases Int.le_total 0 a with h | h
  · exact Int.mul_nonneg h h
  · exact Int.mul_nonneg_of_nonpos_of_nonpos h h
theorem sq_zero {a : Int} (h : a * a = 0) : a = 0 := by
  rcases Int.mul_eq_zero.mp h with z | z <;> exact z
theorem dot3_self (p : I3) : 0 ≤ dot3 p p ∧ (dot3 p p = 0 ↔ p = (0, 0, 0)) := by
  obtain ⟨a, b, c⟩ := p
  have ha := sq_nonneg a
  have hb := sq_nonneg b
  have hc := sq_nonneg c
  have e : dot3 (a, b, c) (a, b, c) = a * a + b * b + c * c := rfl
  rw [e]
  refine ⟨by omega, fun h => ?_, fun h => ?_⟩
  · rw [sq_zero (show a * a = 0 by omega), sq_zero (show b * b = 0 by omega), sq_zero (show c * c = 0 by omega)]
  · cases h; rfl
theorem dot3_pos {p : I3} (h : p ≠ (0, 0, 0)) : 0 < dot3 p p := by
  have := dot3_self p
  rcases Int.lt_or_le 0 (dot3 p p) with k | k
  · exact k
  · exact absurd (this.2.mp (by omega)) h
/-- the square of the velocity and that along the axis -/
theorem lagrange (w f : I3) : dot3 w w * dot3 f f = dot3 f w * dot3 f w + dot3 (crossZ w f) (crossZ w f) := by
  obtain ⟨a, b, c⟩ := w
  obtain ⟨x, y, z⟩ := f
  simp only [dot3, crossZ]
  grind
theorem along (v w p : I3) : dot3 (plus3 v 1 (crossZ w p)) w = dot3 v w := by
  obtain ⟨a, b, c⟩ := w
  obtain ⟨x, y, z⟩ := v
  obtain ⟨p, q, r⟩ := p
  simp only [dot3, crossZ, plus3]
  grind
theorem beside_math {v w p : I3} {t0 t1 : Int} (hw : w ≠ (0, 0, 0)) (h1 : 1 ≤ t1) (h : t0 * dot3 w w = t1 * dot3 v w) :
    0 ≤ t1 * t1 * dot3 (plus3 v 1 (crossZ w p)) (plus3 v 1 (crossZ w p)) - t0 * t0 * dot3 w w ∧ (t1 * t1 * dot3 (plus3 v 1 (crossZ w p)) (plus3 v 1 (crossZ w p)) - t0 * t0 * dot3 w w = 0 ↔ crossZ w (plus3 v 1 (crossZ w p)) = (0, 0, 0)) := by
  have la := lagrange w (plus3 v 1 (crossZ w p))
  rw [along] at la
  have N := dot3_self (crossZ w (plus3 v 1 (crossZ w p)))
  have pw := dot3_pos hw
  generalize dot3 (crossZ w (plus3 v 1 (crossZ w p))) (crossZ w (plus3 v 1 (crossZ w p))) = n at la N
  generalize dot3 (plus3 v 1 (crossZ w p)) (plus3 v 1 (crossZ w p)) = ff at la ⊢
  generalize dot3 w w = ww at *
  generalize dot3 v w = vw at *
  have key : ww * (t1 * t1 * ff - t0 * t0 * ww) = t1 * t1 * n := by grind
  have := nz_of_pos pw h1 N.1 key
  exact ⟨this.1, this.2.trans N.2⟩

abbrev besideTurn (fn_velocity : Fn) : SF := (sSeq (sSet 5 (eFn 3 fn__law_four_place (aCons (eVar 0) (aCons (eC (.int 6)) (aCons (eFn 2 fn__law_of (aCons (eVar 0) (aCons (eLst (aCons (eC (.int 1)) (aCons (eC (.int 5)) (aCons (eOp gPow (eC (.int 10)) (eC (.int 6))) aNil)))) aNil))) aNil)))))
  (sSeq (sSet 6 (eFn 3 fn_velocity (aCons (eC (.int 6)) (aCons (eVar 1) (aCons (eVar 5) aNil)))))
  (sSeq (sIf (fNot (tOf (eFn 2 fn__law_like (aCons (eVar 6) (aCons (eFn 3 fn__law_scaled (aCons (eVar 1) (aCons (eC (.int 1)) (aCons (eVar 5) aNil)))) aNil)))))
  (sRet (eC (.bl false)))
  sNil)
  (sSeq (sSet 7 (eOp (gEqD false) (eFn 2 fn__law_three_cross (aCons (eVar 3) (aCons (eVar 6) aNil))) (eTup (aCons (eC (.int 0)) (aCons (eC (.int 0)) (aCons (eC (.int 0)) aNil))))))
  (sSeq (sSet 8 (eOp gSub (eOp gMul (eOp gPow (eOp gIx (eVar 2) (eC (.int 1))) (eC (.int 2))) (eFn 2 fn__law_three_dot (aCons (eVar 6) (aCons (eVar 6) aNil)))) (eOp gMul (eOp gPow (eOp gIx (eVar 2) (eC (.int 0))) (eC (.int 2))) (eFn 2 fn__law_three_dot (aCons (eVar 3) (aCons (eVar 3) aNil))))))
  (sIf (fOr (tOf (eOp gLt (eVar 8) (eC (.int 0)))) (tOf (eOp (gEqD true) (eOp (gEqD false) (eVar 8) (eC (.int 0))) (eVar 7))))
  (sRet (eC (.bl false)))
  sNil))))))
/-- what a velocity answers -/
def VelOk (fnV : Fn) : Prop := ∀ (v w p : I3) (S : Store), B3 100 v → B3 100 w → In3 1000000000 p → ∃ S', fnV [.int 6, t6 v w, t3 p] S = .ok (t3 (plus3 v 1 (crossZ w p))) S' ∧ Grow S S'
theorem sc1 (v : I3) : (1 * v.1, 1 * v.2.1, 1 * v.2.2) = v := by obtain ⟨a, b, c⟩ := v; simp
theorem beside_turn {fnV : Fn} (hV : VelOk fnV) {v w : I3} {t0 t1 : Int} (hv : B3 100 v) (hw : B3 100 w) (h0 : Bd 300 t0) (h1 : Bd 300 t1) (nz : w ≠ (0, 0, 0)) (c2 : 1 ≤ t1) (q5 : t0 * dot3 w w = t1 * dot3 v w)
    {n c g : Nat} {B : Int} {S : Store} (m : Mst n c g B S) (hB : B + 4 < 2 ^ 60) (p4 p5 p6 p7 p8 : Option D) :
    ∃ a5 a6 a7 a8 S', besideTurn fnV [some (.ob n), some (t6 v w), some (two t0 t1), some (t3 w), p4, p5, p6, p7, p8] S = .nx [some (.ob n), some (t6 v w), some (two t0 t1), some (t3 w), p4, a5, a6, a7, a8] S' ∧ Mst n c g (B + 4) S' ∧ Keep n g S S' := by
  obtain ⟨d, S1, e1, hd, m1, k1, _⟩ := of_lst (f := aCons (eC (.int 1)) (aCons (eC (.int 5)) (aCons (eOp gPow (eC (.int 10)) (eC (.int 6))) aNil))) (ρ := [some (.ob n), some (t6 v w), some (two t0 t1), some (t3 w), p4, p5, p6, p7, p8]) (ds := [.int 1, .int 5, .int 1000000]) (S1 := S) m (by omega) rfl rfl (.refl _) (by simp) (by show 3 < 1000; decide)
  obtain ⟨r, hr, rfl⟩ := int_of_mem (ns := [1, 5, 1000000]) hd
  have hr0 : 0 ≤ r ∧ r ≤ 1000000 := by
    simp only [List.mem_cons, List.not_mem_nil, or_false] at hr
    omega
  obtain ⟨p, S2, e2, pa, pb, pc, m2, k2⟩ := law_four_place_ok m1 (by omega) hr0.1 (show r ≤ 10 ^ 30 by omega)
  have bp : B3 30 p := In3.bd (r := r) ⟨pa, pb, pc⟩ (by omega)
  obtain ⟨S3, e3, g3⟩ := hV v w p S2 hv hw ⟨⟨by omega, by omega⟩, ⟨by omega, by omega⟩, by omega, by omega⟩
  obtain ⟨S4, e4, g4⟩ := law_scaled_ok (v := v) (w := w) (c := 1) (p := p) S3 (hv.mono (by decide)) (Bd.of (by decide) (by decide)) (hw.mono (by decide)) (bp.mono (by decide))
  have es : scaledZ v w 1 p = plus3 v 1 (crossZ w p) := by unfold scaledZ; rw [sc1]
  rw [es] at e4
  have bf : B3 300 (plus3 v 1 (crossZ w p)) := (plus3_bd (a := 200) (b := 131) (c := 10) (hv.mono (by decide)) (cross_bd hw bp) (Bd.of (by decide) (by decide)) (by decide)).mono (by decide)
  have bm := beside_math (p := p) nz c2 q5
  generalize plus3 v 1 (crossZ w p) = f at e3 e4 bf bm
  obtain ⟨S5, e5, g5⟩ := cross3_ok (p := w) (q := f) S4 (hw.mono (by decide)) (bf.mono (by decide))
  obtain ⟨S6, e6, g6⟩ := dot3_ok (p := f) (q := f) S5 (bf.mono (by decide)) (bf.mono (by decide))
  obtain ⟨S7, e7, g7⟩ := dot3_ok (p := w) (q := w) S6 (hw.mono (by decide)) (hw.mono (by decide))
  have b6 : Bd 602 (dot3 f f) := dot3_bd bf bf
  have b7 : Bd 202 (dot3 w w) := dot3_bd hw hw
  generalize dot3 f f = ff at e6 b6 bm
  generalize dot3 w w = ww at e7 b7 bm
  let ic : Bool := decide ([(crossZ w f).1, (crossZ w f).2.1, (crossZ w f).2.2] = [0, 0, 0])
  have hic : ic = decide (t1 * t1 * ff - t0 * t0 * ww = 0) := by
    refine decide_eq_decide.mpr ?_
    rw [bm.2]
    generalize crossZ w f = x
    obtain ⟨x, y, z⟩ := x
    simp
  refine ⟨some (t3 p), some (t3 f), some (.bl ic), some (.int (t1 * t1 * ff - t0 * t0 * ww)), S7, ?_, (((((m2.mono (show B + 1 + 3 ≤ B + 4 by omega)))))) |> g3.mst |> g4.mst |> g5.mst |> g6.mst |> g7.mst, (k1.trans k2).trans ((g3.trans (g4.trans (g5.trans (g6.trans g7)))).keep _ _)⟩
  refine (sSeq_nx (sSet_of (d := t3 p) (S1 := S2) (fn3 (S1 := S) (S2 := S) (S3 := S1) rfl rfl e1 e2))).trans ?_
  refine (sSeq_nx (sSet_of (d := t3 f) (S1 := S3) (fn3 (S1 := S2) (S2 := S2) (S3 := S2) rfl rfl rfl e3))).trans ?_
  refine (skip (S1 := S4) (not_t (fn2 (a := t3 f) (b := t3 f) (S1 := S3) (S2 := S4) rfl (fn3 (S1 := S3) (S2 := S3) (S3 := S3) rfl rfl rfl e4) (like_t3 (bf.mono (by decide)))))).trans ?_
  refine (sSeq_nx (sSet_of (d := .bl ic) (S1 := S5) ?_)).trans ?_
  · rw [eOp_of (x := t3 (crossZ w f)) (y := .tup [.int 0, .int 0, .int 0]) (S1 := S5) (S2 := S5) (fn2 (S1 := S4) (S2 := S4) rfl rfl e5) rfl]
    exact eq_tups [(crossZ w f).1, (crossZ w f).2.1, (crossZ w f).2.2] [0, 0, 0]
  refine (sSeq_nx (sSet_of (d := .int (t1 * t1 * ff - t0 * t0 * ww)) (S1 := S7) ?_)).trans ?_
  · rw [eOp_of (x := .int (t1 * t1 * ff)) (y := .int (t0 * t0 * ww)) (S1 := S6) (S2 := S7) ?_ ?_]
    · rfl
    · rw [eOp_of (x := .int (t1 * t1)) (y := .int ff) (S1 := S5) (S2 := S6) ?_ (fn2 (S1 := S5) (S2 := S5) rfl rfl e6)]
      · exact gMul_bd (h1.mul h1) b6 (by decide) (by decide) (by decide) S6
      · rw [eOp_of (x := .int t1) (y := .int 2) (S1 := S5) (S2 := S5) rfl rfl]
        exact gPow_sq h1 S5
    · rw [eOp_of (x := .int (t0 * t0)) (y := .int ww) (S1 := S6) (S2 := S7) ?_ (fn2 (S1 := S6) (S2 := S6) rfl rfl e7)]
      · exact gMul_bd (h0.mul h0) b7 (by decide) (by decide) (by decide) S7
      · rw [eOp_of (x := .int t0) (y := .int 2) (S1 := S6) (S2 := S6) rfl rfl]
        exact gPow_sq h0 S6
  rw [sIf_of (S1 := S7) (k := false) ?_, if_neg Bool.false_ne_true]
  · rfl
  refine or_ff (S1 := S7) (ltI (i := t1 * t1 * ff - t0 * t0 * ww) (j := 0) (S1 := S7) rfl rfl bm.1) (tOf_of ?_)
  rw [eOp_of (x := .bl (decide (t1 * t1 * ff - t0 * t0 * ww = 0))) (y := .bl ic) (S1 := S7) (S2 := S7) ?_ rfl]
  · rw [eq_bls, hic]
    simp
  · rw [eOp_of (x := .int (t1 * t1 * ff - t0 * t0 * ww)) (y := .int 0) (S1 := S7) (S2 := S7) rfl rfl, eq_ints']
    rfl
theorem beside_ok {fnV : Fn} (hV : VelOk fnV) {v w : I3} {t0 t1 : Int} (hv : B3 100 v) (hw : B3 100 w) (h0 : Bd 300 t0) (h1 : Bd 300 t1) (nz : w ≠ (0, 0, 0)) (c2 : 1 ≤ t1) (q5 : t0 * dot3 w w = t1 * dot3 v w)
    {n c g : Nat} {B : Int} {S : Store} (m : Mst n c g B S) (hB : B + 12 < 2 ^ 60) :
    ∃ S', runDef 9 (besideB fnV) [.ob n, t6 v w, two t0 t1] S = .ok (.bl true) S' ∧ Mst n c g (B + 12) S' ∧ Keep n g S S' := by
  let Iv : Nat → Rho → Store → Prop := fun i ρ T => (∃ p4 a5 a6 a7 a8, ρ = [some (.ob n), some (t6 v w), some (two t0 t1), some (t3 w), p4, a5, a6, a7, a8]) ∧ Mst n c g (B + 4 * i) T ∧ Keep n g S T
  obtain ⟨ρ', S', e, _, m', k'⟩ := loop_all (gg := gN 4) (chk := noChk) (body := besideTurn fnV) Iv [.int 0, .int 1, .int 2] (ρ := [some (.ob n), some (t6 v w), some (two t0 t1), some (t3 w), none, none, none, none, none]) (S := S) ⟨⟨none, none, none, none, none, rfl⟩, by simpa using m, .refl _ _ _⟩ (fun _ _ _ _ _ => rfl) (by
    rintro i x ρ T hx ⟨⟨p4, a5, a6, a7, a8, rfl⟩, mT, kT⟩
    have hi : i < 3 := (List.getElem?_eq_some_iff.mp hx).1
    obtain ⟨b5, b6, b7, b8, T', e, m', k'⟩ := beside_turn hV hv hw h0 h1 nz c2 q5 mT (by omega) (some x) a5 a6 a7 a8
    exact ⟨_, _, T', rfl, e, ⟨some x, b5, b6, b7, b8, rfl⟩, m'.mono (by push_cast; omega), kT.trans k'⟩)
  refine ⟨S', runDef_rt (ρ := [some (.ob n), some (t6 v w), some (two t0 t1), none, none, none, none, none, none]) rfl ?_, m', k'⟩
  unfold besideB
  refine (sSeq_nx (show sSet 3 (eSl (eVar 1) (pSome (eC (.int 3))) pNone) [some (.ob n), some (t6 v w), some (two t0 t1), none, none, none, none, none, none] S = .nx [some (.ob n), some (t6 v w), some (two t0 t1), some (t3 w), none, none, none, none, none] S from rfl)).trans ?_
  refine (sSeq_nx (ρ' := ρ') (S' := S') ?_).trans ?_
  · unfold sFor
    have q : iR1 (aCons (eC (.int 3)) aNil) [some (.ob n), some (t6 v w), some (two t0 t1), some (t3 w), none, none, none, none, none] S = .ok ([.int 0, .int 1, .int 2], noChk) S := rfl
    rw [q]; simp only [R.to_ok]
    exact e
  · rfl
end Z

set_option Elab.async false
set_option linter.all false
set_option maxRecDepth 100000
set_option maxHeartbeats 1000000
namespace Z
local instance : Tabs := ⟨[]⟩
open PySem L2
def gcdF (s : Nat) (xs : List Int) : Nat := xs.foldl (fun s x => Nat.gcd x.natAbs s) s
theorem gcdF_dvd : ∀ (xs : List Int) (s : Nat), gcdF s xs ∣ s ∧ ∀ x ∈ xs, gcdF s xs ∣ x.natAbs
  | [], s => ⟨Nat.dvd_refl _, fun _ h => nomatch h⟩
  | x :: xs, s => by
    have h := gcdF_dvd xs (Nat.gcd x.natAbs s)
    have e : gcdF s (x :: xs) = gcdF (Nat.gcd x.natAbs s) xs := rfl
    rw [e]
    refine ⟨Nat.dvd_trans h.1 (Nat.gcd_dvd_right _ _), fun y hy => ?_⟩
    rcases List.mem_cons.mp hy with rfl | hy
    · exact Nat.dvd_trans h.1 (Nat.gcd_dvd_left _ _)
    · exact h.2 y hy
theorem dvd_gcdF {d : Nat} : ∀ (xs : List Int) (s : Nat), d ∣ s → (∀ x ∈ xs, d ∣ x.natAbs) → d ∣ gcdF s xs
  | [], s, h, _ => h
  | x :: xs, s, h, k => dvd_gcdF xs (Nat.gcd x.natAbs s) (Nat.dvd_gcd (k x List.mem_cons_self) h) fun y hy => k y (List.mem_cons_of_mem _ hy)
theorem share_dvd {xs : List Int} {x : Int} (h : x ∈ xs) : (shareZ xs : Int) ∣ x := Int.ofNat_dvd_left.mpr ((gcdF_dvd xs 0).2 x h)
theorem share_pos {xs : List Int} {x : Int} (h : x ∈ xs) (hx : x ≠ 0) : 1 ≤ shareZ xs := by
  have d := (gcdF_dvd xs 0).2 x h
  rcases Nat.eq_zero_or_pos (shareZ xs) with z | z
  · have z' : gcdF 0 xs = 0 := z
    rw [z'] at d
    have := Nat.eq_zero_of_zero_dvd d
    omega
  · exact z
theorem short_eq {xs : List Int} (h : 1 ≤ shareZ xs) : shortZ xs = xs.map fun x => x / (shareZ xs : Int) := by
  unfold shortZ
  split
  · rfl
  · have e : shareZ xs = 1 := by omega
    rw [e]
    simp
theorem share_div {xs : List Int} (h : 1 ≤ shareZ xs) : shareZ (xs.map fun x => x / (shareZ xs : Int)) = 1 := by
  have d := gcdF_dvd (xs.map fun x => x / (shareZ xs : Int)) 0
  have dd : shareZ (xs.map fun x => x / (shareZ xs : Int)) * shareZ xs ∣ shareZ xs := by
    refine dvd_gcdF xs 0 (Nat.dvd_zero _) fun x hx => ?_
    have d1 := d.2 (x / (shareZ xs : Int)) (List.mem_map.mpr ⟨x, hx, rfl⟩)
    have e : x.natAbs = (x / (shareZ xs : Int)).natAbs * shareZ xs := by
      have := Int.ediv_mul_cancel (share_dvd hx)
      have h2 := congrArg Int.natAbs this
      rw [Int.natAbs_mul, Int.natAbs_natCast] at h2
      exact h2.symm
    rw [e]
    exact Nat.mul_dvd_mul_right d1 _
  obtain ⟨k, hk⟩ := dd
  generalize shareZ (xs.map fun x => x / (shareZ xs : Int)) = a at hk
  generalize shareZ xs = b at *
  have e : b * 1 = b * (a * k) := by
    rw [Nat.mul_one]
    calc b = a * b * k := hk
      _ = b * (a * k) := by rw [Nat.mul_comm a b, Nat.mul_assoc]
  have e2 := Nat.eq_of_mul_eq_mul_left h e
  exact Nat.eq_one_of_mul_eq_one_right e2.symm
theorem short_short {xs : List Int} (h : 1 ≤ shareZ xs) : shortZ (xs.map fun x => x / (shareZ xs : Int)) = xs.map fun x => x / (shareZ xs : Int) := by
  have e := share_div h
  unfold shortZ
  rw [if_neg (by rw [e]; omega)]
theorem Bd.div {k : Nat} {x : Int} (h : Bd k x) (g : Int) : Bd k (x / g) := Nat.lt_of_le_of_lt (Int.natAbs_ediv_le_natAbs x g) h
def div3 (p : I3) (k : Nat) : I3 := (p.1 / (k : Int), p.2.1 / (k : Int), p.2.2 / (k : Int))
theorem B3.div {k : Nat} {p : I3} (h : B3 k p) (g : Nat) : B3 k (div3 p g) := ⟨h.1.div _, h.2.1.div _, h.2.2.div _⟩
def ax4 (v w : I3) : List Int := [dot3 w w, (crossZ w v).1, (crossZ w v).2.1, (crossZ w v).2.2]
def pi2 (v w : I3) : List Int := [dot3 v w, dot3 w w]
def row3 (w : I3) : List Int := [w.1, w.2.1, w.2.2]
def dueAxis (v w : I3) : D := fnd (dot3 w w / (shareZ (ax4 v w) : Int)) (div3 (crossZ w v) (shareZ (ax4 v w))) (div3 w (shareZ (row3 w)))
def duePitch (v w : I3) : D := two (dot3 v w / (shareZ (pi2 v w) : Int)) (dot3 w w / (shareZ (pi2 v w) : Int))
theorem cancel {g a b : Int} (hg : g ≠ 0) (h : g * a = g * b) : a = b := Int.eq_of_mul_eq_mul_left hg h
theorem turn_one {g cnt s t0 t1 w1 w2 w3 v1 v2 v3 n2 n3 y2 y3 ww vw : Int} (hg : g ≠ 0) (a : g * cnt = ww) (hww : ww = w1 * w1 + w2 * w2 + w3 * w3) (hvw : vw = v1 * w1 + v2 * w2 + v3 * w3) (b2 : g * n2 = w3 * v1 - w1 * v3) (b3 : g * n3 = w1 * v2 - w2 * v1) (z : w2 * y3 - w3 * y2 = 0) (q : t0 * ww = t1 * vw) :
    t1 * (cnt * v1 + 1 * (w2 * (n3 + s * cnt * y3) - w3 * (n2 + s * cnt * y2))) = t0 * cnt * w1 := by
  have f : 1 * (w2 * (n3 + s * cnt * y3) - w3 * (n2 + s * cnt * y2)) = w2 * n3 - w3 * n2 + s * cnt * (w2 * y3 - w3 * y2) := by grind
  rw [f, z, Int.mul_zero, Int.add_zero]
  have e1 : g * (cnt * v1 + (w2 * n3 - w3 * n2)) = g * cnt * v1 + (w2 * (g * n3) - w3 * (g * n2)) := by grind
  have e2 : (w1 * w1 + w2 * w2 + w3 * w3) * v1 + (w2 * (w1 * v2 - w2 * v1) - w3 * (w3 * v1 - w1 * v3)) = w1 * (v1 * w1 + v2 * w2 + v3 * w3) := by grind
  rw [a, b2, b3, hww, e2, ← hvw] at e1
  refine cancel hg ?_
  calc g * (t1 * (cnt * v1 + (w2 * n3 - w3 * n2))) = t1 * (g * (cnt * v1 + (w2 * n3 - w3 * n2))) := by rw [Int.mul_left_comm]
    _ = t1 * (w1 * vw) := by rw [e1]
    _ = w1 * (t1 * vw) := by rw [Int.mul_left_comm]
    _ = w1 * (t0 * (g * cnt)) := by rw [← q, a]
    _ = g * (t0 * cnt * w1) := by grind
theorem turn_math {v w nu wy : I3} {cnt t0 t1 g k h s : Int} (hg : g ≠ 0) (hk : k ≠ 0) (a : g * cnt = dot3 w w) (b1 : g * nu.1 = (crossZ w v).1) (b2 : g * nu.2.1 = (crossZ w v).2.1) (b3 : g * nu.2.2 = (crossZ w v).2.2)
    (d1 : k * wy.1 = w.1) (d2 : k * wy.2.1 = w.2.1) (d3 : k * wy.2.2 = w.2.2) (q : t0 * dot3 w w = t1 * dot3 v w) :
    sc3 t1 (scaledZ v w cnt (plus3 nu (s * cnt) wy)) = sc3 (t0 * cnt) w := by
  obtain ⟨w1, w2, w3⟩ := w
  obtain ⟨v1, v2, v3⟩ := v
  obtain ⟨n1, n2, n3⟩ := nu
  obtain ⟨y1, y2, y3⟩ := wy
  simp only [crossZ] at b1 b2 b3
  simp only at d1 d2 d3
  have z1 : w2 * y3 - w3 * y2 = 0 := by rw [← d2, ← d3]; grind
  have z2 : w3 * y1 - w1 * y3 = 0 := by rw [← d1, ← d3]; grind
  have z3 : w1 * y2 - w2 * y1 = 0 := by rw [← d1, ← d2]; grind
  simp only [scaledZ, plus3, sc3, crossZ, Prod.mk.injEq]
  exact ⟨turn_one hg a rfl rfl b2 b3 z1 q, turn_one (v2 := v3) (v3 := v1) hg a (by simp only [dot3]; omega) (by simp only [dot3]; omega) b3 b1 z2 q, turn_one (v2 := v1) (v3 := v2) hg a (by simp only [dot3]; omega) (by simp only [dot3]; omega) b1 b2 z3 q⟩
theorem dot_cross (w v : I3) : dot3 (crossZ w v) w = 0 := by
  obtain ⟨w1, w2, w3⟩ := w
  obtain ⟨v1, v2, v3⟩ := v
  simp only [dot3, crossZ]
  grind
theorem due_right {v w : I3} (hv : B3 100 v) (hw : B3 100 w) (nz : w ≠ (0, 0, 0)) (S : Store) : ∃ S', fn__law_axis_right [t6 v w, dueAxis v w, duePitch v w] S = .ok (.bl true) S' ∧ Grow S S' := by
  have pw := dot3_pos nz
  have gp : 1 ≤ shareZ (ax4 v w) := share_pos (x := dot3 w w) (by simp [ax4]) (by omega)
  have hp : 1 ≤ shareZ (pi2 v w) := share_pos (x := dot3 w w) (by simp [pi2]) (by omega)
  have kp : 1 ≤ shareZ (row3 w) := by
    obtain ⟨a, b, c⟩ := w
    by_cases ha : a = 0
    · by_cases hb : b = 0
      · have hc : c ≠ 0 := fun hc => nz (by rw [ha, hb, hc])
        exact share_pos (x := c) (by simp [row3]) hc
      · exact share_pos (x := b) (by simp [row3]) hb
    · exact share_pos (x := a) (by simp [row3]) ha
  have bw : Bd 202 (dot3 w w) := dot3_bd hw hw
  have bv : Bd 202 (dot3 v w) := dot3_bd hv hw
  have bc : B3 201 (crossZ w v) := cross_bd hw hv
  have mul : ∀ {g : Nat} {x : Int}, (g : Int) ∣ x → (g : Int) * (x / g) = x := fun h => Int.mul_ediv_cancel' h
  have g1 := mul (share_dvd (xs := ax4 v w) (x := dot3 w w) (by simp [ax4]))
  have g2 := mul (share_dvd (xs := ax4 v w) (x := (crossZ w v).1) (by simp [ax4]))
  have g3 := mul (share_dvd (xs := ax4 v w) (x := (crossZ w v).2.1) (by simp [ax4]))
  have g4 := mul (share_dvd (xs := ax4 v w) (x := (crossZ w v).2.2) (by simp [ax4]))
  have k1 := mul (share_dvd (xs := row3 w) (x := w.1) (by simp [row3]))
  have k2 := mul (share_dvd (xs := row3 w) (x := w.2.1) (by simp [row3]))
  have k3 := mul (share_dvd (xs := row3 w) (x := w.2.2) (by simp [row3]))
  have h1 := mul (share_dvd (xs := pi2 v w) (x := dot3 v w) (by simp [pi2]))
  have h2 := mul (share_dvd (xs := pi2 v w) (x := dot3 w w) (by simp [pi2]))
  have pos : ∀ {g : Nat} {x : Int}, 1 ≤ g → 0 < x → (g : Int) * (x / g) = x → 1 ≤ x / (g : Int) := fun {g x} hg hx h => by
    rcases Int.lt_or_le 0 (x / (g : Int)) with p | p
    · exact p
    · have := Int.mul_nonpos_of_nonneg_of_nonpos (show (0 : Int) ≤ (g : Int) by omega) p
      omega
  have q5 : dot3 v w / (shareZ (pi2 v w) : Int) * dot3 w w = dot3 w w / (shareZ (pi2 v w) : Int) * dot3 v w := by
    generalize dot3 v w / (shareZ (pi2 v w) : Int) = t0 at *
    generalize dot3 w w / (shareZ (pi2 v w) : Int) = t1 at *
    rw [← h1, ← h2]
    grind
  refine law_axis_right_ok hv hw ((bc.mono (by decide)).div _) ((hw.mono (by decide)).div _) ((bw.mono (by decide)).div _) ((bv.mono (by decide)).div _) ((bw.mono (by decide)).div _)
    (pos gp pw g1) (short_short gp) (short_eq kp) ?_ (pos hp pw h2) (short_short hp) q5 (fun s _ => turn_math (g := (shareZ (ax4 v w) : Int)) (k := (shareZ (row3 w) : Int)) (h := 1) (by omega) (by omega) g1 g2 g3 g4 k1 k2 k3 q5) S
  refine cancel (g := (shareZ (ax4 v w) : Int)) (by omega) ?_
  have e := dot_cross w v
  unfold dot3 at e
  unfold dot3 div3
  simp only
  rw [Int.mul_zero]
  generalize (crossZ w v).1 / (shareZ (ax4 v w) : Int) = n1 at *
  generalize (crossZ w v).2.1 / (shareZ (ax4 v w) : Int) = n2 at *
  generalize (crossZ w v).2.2 / (shareZ (ax4 v w) : Int) = n3 at *
  rw [← g2, ← g3, ← g4] at e
  grind
end Z

set_option Elab.async false
set_option linter.all false
set_option maxRecDepth 100000
set_option maxHeartbeats 1000000
namespace Z
local instance : Tabs := ⟨[]⟩
open PySem L2
/-- what a function of a motion answers: None for a shift, what is due for a turn, BadRow(0) for what is no motion -/
structure MotOk (fn : Fn) (due : I3 → I3 → D) : Prop where
  shift : ∀ (v : I3) (S : Store), B3 100 v → ∃ S', fn [t6 v (0, 0, 0)] S = .ok .non S' ∧ Grow S S'
  turn : ∀ (v w : I3) (S : Store), B3 100 v → B3 100 w → w ≠ (0, 0, 0) → ∃ S', fn [t6 v w] S = .ok (due v w) S' ∧ Grow S S'
  wrong : ∀ (d : D) (S : Store), NotRow 6 S d → ∃ S', fn [d] S = .exc "BadRow" [("index", .int 0)] S' ∧ Grow S S'
theorem heard_ok {fnA fnP : Fn} {dA dP : I3 → I3 → D} (hA : MotOk fnA dA) (hP : MotOk fnP dP) {d : D} {S : Store} (h : NotRow 6 S d) (k : Int) : ∃ S', runDef 4 (heardB fnA fnP) [.int k, d] S = .ok (.tup [.int 0, .bl true]) S' ∧ Grow S S' := by
  obtain ⟨S', e, g⟩ : ∃ S', sIf (tOf (eOp (gEqD false) (eVar 0) (eC (.int 0)))) (sExpr (eFn 1 fnA (aCons (eVar 1) aNil))) (sExpr (eFn 1 fnP (aCons (eVar 1) aNil))) [some (.int k), some d, some (.str "nothing"), none] S = .exc "BadRow" [("index", .int 0)] [some (.int k), some d, some (.str "nothing"), none] S' ∧ Grow S S' := by
    have t : tOf (eOp (gEqD false) (eVar 0) (eC (.int 0))) [some (.int k), some d, some (.str "nothing"), none] S = .ok (decide (k = 0)) S := tEqI rfl
    rw [sIf_of t]
    obtain ⟨S1, e1, g1⟩ := hA.wrong d S h
    obtain ⟨S2, e2, g2⟩ := hP.wrong d S h
    by_cases z : k = 0
    · rw [if_pos (by simp [z])]
      refine ⟨S1, ?_, g1⟩
      unfold sExpr
      rw [eFn_of (n := 1) (xs := [d]) (S1 := S) rfl rfl, e1]
      rfl
    · rw [if_neg (by simp [z])]
      refine ⟨S2, ?_, g2⟩
      unfold sExpr
      rw [eFn_of (n := 1) (xs := [d]) (S1 := S) rfl rfl, e2]
      rfl
  refine ⟨S', runDef_rt (ρ := [some (.int k), some d, none, none]) rfl ?_, g⟩
  unfold heardB
  refine (sSeq_nx (show sSet 2 (eC (.str "nothing")) [some (.int k), some d, none, none] S = .nx [some (.int k), some d, some (.str "nothing"), none] S from rfl)).trans ?_
  refine (sSeq_nx (ρ' := [some (.int k), some d, some (.tup [.int 0, .bl true]), none]) (S' := S') ?_).trans rfl
  unfold sTryAs
  rw [e]
  rfl
theorem like_lsts {ds : List D} {ps : List PyData} {k l : Nat} {S : Store} (h1 : S[k]? = some (.lst ds)) (h2 : S[l]? = some (.lst ds)) (hp : pyAll (pyD 11 S) ds = some ps) (hn : nice (.list ps) = true) : fn__law_like [.ob k, .ob l] S = .ok (.bl true) S := by
  have q : ∀ {i : Nat}, S[i]? = some (.lst ds) → pyD FUEL S (.ob i) = some (.list ps) := fun {i} h => by
    show (match asL S (.ob i) with
      | some zs => (pyAll (pyD 11 S) zs).map PyData.list
      | none => none) = _
    have : asL S (.ob i) = some ds := by simp only [asL, h]
    rw [this]; simp only [hp, Option.map]
  exact law_like_ok (.inr ⟨k, rfl⟩) (.inr ⟨l, rfl⟩) (q h1) (q h2) hn
abbrev lawTurn (fn_axis fn_pitch fn__law_beside_right fn__law_heard : Fn) : SF := (sSeq (sSet 3 (eFn 1 fn__law_motion (aCons (eVar 1) aNil)))
  (sSeq (sPar 4 5 (aCons (eFn 1 fn_axis (aCons (eVar 3) aNil)) (aCons (eFn 1 fn_pitch (aCons (eVar 3) aNil)) aNil)))
  (sSeq (sIf (tOf (eOp (gEqD false) (eSl (eVar 3) (pSome (eC (.int 3))) pNone) (eTup (aCons (eC (.int 0)) (aCons (eC (.int 0)) (aCons (eC (.int 0)) aNil))))))
  (sIf (fNot (tOf (eFn 2 fn__law_like (aCons (eLst (aCons (eVar 4) (aCons (eVar 5) aNil))) (aCons (eLst (aCons (eC .non) (aCons (eC .non) aNil))) aNil)))))
  (sRet (eC (.bl false)))
  sNil)
  (sIf (fOr (fNot (tOf (eFn 3 fn__law_axis_right (aCons (eVar 3) (aCons (eVar 4) (aCons (eVar 5) aNil)))))) (fNot (tOf (eFn 3 fn__law_beside_right (aCons (eVar 1) (aCons (eVar 3) (aCons (eVar 5) aNil)))))))
  (sRet (eC (.bl false)))
  sNil))
  (sSeq (sSet 6 (eFn 2 fn__law_three_bad (aCons (eVar 1) (aCons (eVar 3) aNil))))
  (sIf (fNot (tOf (eFn 2 fn__law_like (aCons (eLst (aCons (eFn 2 fn__law_heard (aCons (eC (.int 0)) (aCons (eVar 6) aNil))) (aCons (eFn 2 fn__law_heard (aCons (eC (.int 1)) (aCons (eVar 6) aNil))) aNil))) (aCons (eLst (aCons (eTup (aCons (eC (.int 0)) (aCons (eC (.bl true)) aNil))) (aCons (eTup (aCons (eC (.int 0)) (aCons (eC (.bl true)) aNil))) aNil))) aNil)))))
  (sRet (eC (.bl false)))
  sNil)))))
theorem nice_nn : nice (.list [.none, .none]) = true := by decide +kernel
theorem nice_tt : nice (.list [.tuple [.int 0, .bool true], .tuple [.int 0, .bool true]]) = true := by decide +kernel
theorem three_zero {w : I3} {f : EF} {ρ : Rho} {S : Store} (e : f ρ S = .ok (t6 w w) S) : True := trivial
theorem turning_is {p0 p1 p2 p4 p5 p6 : Option D} {v w : I3} (S : Store) : tOf (eOp (gEqD false) (eSl (eVar 3) (pSome (eC (.int 3))) pNone) (eTup (aCons (eC (.int 0)) (aCons (eC (.int 0)) (aCons (eC (.int 0)) aNil))))) [p0, p1, p2, some (t6 v w), p4, p5, p6] S = .ok (decide (w = (0, 0, 0))) S := by
  refine tOf_of ?_
  rw [eOp_of (x := .tup ([w.1, w.2.1, w.2.2].map D.int)) (y := .tup (([0, 0, 0] : List Int).map D.int)) (S1 := S) (S2 := S) rfl rfl, eq_tups]
  obtain ⟨a, b, c⟩ := w
  simp
theorem law_turn {fnA fnP fnV : Fn} (hA : MotOk fnA dueAxis) (hP : MotOk fnP duePitch) (hV : VelOk fnV) {n c g : Nat} {B : Int} {S : Store} (m : Mst n c g B S) (hB : B + 40 < 2 ^ 60) (p0 p2 p3 p4 p5 p6 : Option D) :
    ∃ a3 a4 a5 a6 S', lawTurn fnA fnP (runDef 9 (besideB fnV)) (runDef 4 (heardB fnA fnP)) [p0, some (.ob n), p2, p3, p4, p5, p6] S = .nx [p0, some (.ob n), p2, a3, a4, a5, a6] S' ∧ Mst n c g (B + 40) S' := by
  obtain ⟨v, w, S1, e1, bv, bw, m1, k1⟩ := law_motion_ok m (by omega)
  -- behind the axis and the pitch
  have bad : ∀ (d4 d5 : D) (T : Store), Mst n c g (B + 32) T → ∃ d6 T', sSeq (sSet 6 (eFn 2 fn__law_three_bad (aCons (eVar 1) (aCons (eVar 3) aNil))))
      (sIf (fNot (tOf (eFn 2 fn__law_like (aCons (eLst (aCons (eFn 2 (runDef 4 (heardB fnA fnP)) (aCons (eC (.int 0)) (aCons (eVar 6) aNil))) (aCons (eFn 2 (runDef 4 (heardB fnA fnP)) (aCons (eC (.int 1)) (aCons (eVar 6) aNil))) aNil))) (aCons (eLst (aCons (eTup (aCons (eC (.int 0)) (aCons (eC (.bl true)) aNil))) (aCons (eTup (aCons (eC (.int 0)) (aCons (eC (.bl true)) aNil))) aNil))) aNil)))))
      (sRet (eC (.bl false))) sNil) [p0, some (.ob n), p2, some (t6 v w), some d4, some d5, p6] T = .nx [p0, some (.ob n), p2, some (t6 v w), some d4, some d5, some d6] T' ∧ Mst n c g (B + 40) T' := by
    intro d4 d5 T mT
    obtain ⟨d6, T1, f1, nr, mT1, kT1⟩ := law_three_bad_ok (ns := [v.1, v.2.1, v.2.2, w.1, w.2.1, w.2.2]) mT (by omega) ⟨by show 0 < 6; decide, by show 6 ≤ 400; decide⟩
    obtain ⟨T2, f2, g2⟩ := heard_ok hA hP nr 0
    obtain ⟨T3, f3, g3⟩ := heard_ok hA hP (nr.grow g2) 1
    let ds : List D := [.tup [.int 0, .bl true], .tup [.int 0, .bl true]]
    refine ⟨d6, T3 ++ [.lst ds] ++ [.lst ds], ?_, ((g2.trans (g3.trans ((Grow.one _ _).trans (Grow.one _ _)))).mst mT1).mono (by omega)⟩
    refine (sSeq_nx (sSet_of (d := d6) (S1 := T1) (fn2 (S1 := T) (S2 := T) rfl rfl f1))).trans ?_
    simp only [List.set_cons_succ, List.set_cons_zero]
    rw [sIf_of (S1 := T3 ++ [.lst ds] ++ [.lst ds]) (k := false) ?_, if_neg Bool.false_ne_true]
    · rfl
    refine not_t (fn2 (a := .ob T3.length) (b := .ob (T3.length + 1)) (S1 := T3 ++ [.lst ds]) (S2 := T3 ++ [.lst ds] ++ [.lst ds]) ?_ ?_ ?_)
    · exact eLst_of (S1 := T3) (aCons_of (S1 := T2) (fn2 (S1 := T1) (S2 := T1) rfl rfl f2) (aCons1 (fn2 (S1 := T2) (S2 := T2) rfl rfl f3))) (by show 2 ≤ 1000; decide)
    · refine (eLst_of (S1 := T3 ++ [.lst ds]) (xs := ds) rfl (by show 2 ≤ 1000; decide)).trans ?_
      simp
    · exact like_lsts (ds := ds) (by simp) (by simp) rfl nice_tt
  by_cases z : w = (0, 0, 0)
  · subst z
    obtain ⟨S2, e2, g2⟩ := hA.shift v S1 bv
    obtain ⟨S3, e3, g3⟩ := hP.shift v S2 bv
    let ds : List D := [.non, .non]
    have mT : Mst n c g (B + 32) (S3 ++ [.lst ds] ++ [.lst ds]) := ((g2.trans (g3.trans ((Grow.one _ _).trans (Grow.one _ _)))).mst m1).mono (by omega)
    obtain ⟨d6, T', eb, mb⟩ := bad .non .non _ mT
    refine ⟨some (t6 v (0, 0, 0)), some .non, some .non, some d6, T', ?_, mb⟩
    refine (sSeq_nx (sSet_of (d := t6 v (0, 0, 0)) (S1 := S1) (fn1 (S1 := S) rfl e1))).trans ?_
    simp only [List.set_cons_succ, List.set_cons_zero]
    refine (sSeq_nx (sPar_of (x := .non) (y := .non) (S1 := S3) (aCons_of (S1 := S2) (fn1 (S1 := S1) rfl e2) (aCons1 (fn1 (S1 := S2) rfl e3))))).trans ?_
    simp only [List.set_cons_succ, List.set_cons_zero]
    refine (sSeq_nx (ρ' := [p0, some (.ob n), p2, some (t6 v (0, 0, 0)), some .non, some .non, p6]) (S' := S3 ++ [.lst ds] ++ [.lst ds]) ?_).trans eb
    rw [sIf_of (turning_is S3), if_pos (by simp)]
    rw [sIf_of (S1 := S3 ++ [.lst ds] ++ [.lst ds]) (k := false) ?_, if_neg Bool.false_ne_true]
    · rfl
    refine not_t (fn2 (a := .ob S3.length) (b := .ob (S3.length + 1)) (S1 := S3 ++ [.lst ds]) (S2 := S3 ++ [.lst ds] ++ [.lst ds]) ?_ ?_ ?_)
    · exact eLst_of (S1 := S3) (xs := ds) rfl (by show 2 ≤ 1000; decide)
    · refine (eLst_of (S1 := S3 ++ [.lst ds]) (xs := ds) rfl (by show 2 ≤ 1000; decide)).trans ?_
      simp
    · exact like_lsts (ds := ds) (by simp) (by simp) rfl nice_nn
  · obtain ⟨S2, e2, g2⟩ := hA.turn v w S1 bv bw z
    obtain ⟨S3, e3, g3⟩ := hP.turn v w S2 bv bw z
    obtain ⟨S4, e4, g4⟩ := due_right bv bw z S3
    have pw := dot3_pos z
    have hp : 1 ≤ shareZ (pi2 v w) := share_pos (x := dot3 w w) (by simp [pi2]) (by omega)
    have h1 : (shareZ (pi2 v w) : Int) * (dot3 v w / (shareZ (pi2 v w) : Int)) = dot3 v w := Int.mul_ediv_cancel' (share_dvd (by simp [pi2]))
    have h2 : (shareZ (pi2 v w) : Int) * (dot3 w w / (shareZ (pi2 v w) : Int)) = dot3 w w := Int.mul_ediv_cancel' (share_dvd (by simp [pi2]))
    have q5 : dot3 v w / (shareZ (pi2 v w) : Int) * dot3 w w = dot3 w w / (shareZ (pi2 v w) : Int) * dot3 v w := by
      generalize dot3 v w / (shareZ (pi2 v w) : Int) = t0 at *
      generalize dot3 w w / (shareZ (pi2 v w) : Int) = t1 at *
      rw [← h1, ← h2]
      grind
    have c2 : 1 ≤ dot3 w w / (shareZ (pi2 v w) : Int) := by
      rcases Int.lt_or_le 0 (dot3 w w / (shareZ (pi2 v w) : Int)) with p | p
      · exact p
      · have := Int.mul_nonpos_of_nonneg_of_nonpos (show (0 : Int) ≤ (shareZ (pi2 v w) : Int) by omega) p
        omega
    obtain ⟨S5, e5, m5, k5⟩ := beside_ok hV bv bw (((dot3_bd bv bw).mono (by decide)).div _) (((dot3_bd bw bw).mono (by decide)).div _) z c2 q5 ((g2.trans (g3.trans g4)).mst m1) (by omega)
    obtain ⟨d6, T', eb, mb⟩ := bad (dueAxis v w) (duePitch v w) S5 (m5.mono (by omega))
    refine ⟨some (t6 v w), some (dueAxis v w), some (duePitch v w), some d6, T', ?_, mb⟩
    refine (sSeq_nx (sSet_of (d := t6 v w) (S1 := S1) (fn1 (S1 := S) rfl e1))).trans ?_
    simp only [List.set_cons_succ, List.set_cons_zero]
    refine (sSeq_nx (sPar_of (x := dueAxis v w) (y := duePitch v w) (S1 := S3) (aCons_of (S1 := S2) (fn1 (S1 := S1) rfl e2) (aCons1 (fn1 (S1 := S2) rfl e3))))).trans ?_
    simp only [List.set_cons_succ, List.set_cons_zero]
    refine (sSeq_nx (ρ' := [p0, some (.ob n), p2, some (t6 v w), some (dueAxis v w), some (duePitch v w), p6]) (S' := S5) ?_).trans eb
    rw [sIf_of (turning_is S3), if_neg (by simp [z])]
    rw [sIf_of (S1 := S5) (k := false) ?_, if_neg Bool.false_ne_true]
    · rfl
    exact or_ff (S1 := S4) (not_t (fn3 (S1 := S3) (S2 := S3) (S3 := S3) rfl rfl rfl e4)) (not_t (fn3 (S1 := S4) (S2 := S4) (S3 := S4) rfl rfl rfl e5))
theorem k21_law {fnA fnP fnV : Fn} (hA : MotOk fnA dueAxis) (hP : MotOk fnP duePitch) (hV : VelOk fnV) (ns : List Int) (h : ns.length ≤ 63) :
    ∃ S', runDef 7 (lawB fnA fnP (runDef 9 (besideB fnV)) (runDef 4 (heardB fnA fnP))) [.ob 0] [.frz (ns.map D.int)] = .ok (.bl true) S' := by
  obtain ⟨n, c, g, S1, e1, m1⟩ := law_begun_ok (S := [.frz (ns.map D.int)]) (k := 0) rfl h
  let Iv : Nat → Rho → Store → Prop := fun i ρ T => (∃ p2 p3 p4 p5 p6, ρ = [some (.ob 0), some (.ob n), p2, p3, p4, p5, p6]) ∧ Mst n c g (40 * i) T
  obtain ⟨ρ', S', e, _, _⟩ := loop_all (gg := gN 2) (chk := noChk) (body := lawTurn fnA fnP (runDef 9 (besideB fnV)) (runDef 4 (heardB fnA fnP))) Iv [.int 0, .int 1] (ρ := [some (.ob 0), some (.ob n), none, none, none, none, none]) (S := S1) ⟨⟨none, none, none, none, none, rfl⟩, by simpa using m1⟩ (fun _ _ _ _ _ => rfl) (by
    rintro i x ρ T hx ⟨⟨p2, p3, p4, p5, p6, rfl⟩, mT⟩
    have hi : i < 2 := (List.getElem?_eq_some_iff.mp hx).1
    obtain ⟨a3, a4, a5, a6, T', e, m'⟩ := law_turn hA hP hV mT (by omega) (some (.ob 0)) (some x) p3 p4 p5 p6
    exact ⟨_, _, T', rfl, e, ⟨some x, a3, a4, a5, a6, rfl⟩, m'.mono (by push_cast; omega)⟩)
  refine ⟨S', runDef_rt (ρ := [some (.ob 0), none, none, none, none, none, none]) rfl ?_⟩
  unfold lawB
  refine (sSeq_nx (sSet_of (d := .ob n) (S1 := S1) (fn1 (S1 := [.frz (ns.map D.int)]) rfl e1))).trans ?_
  simp only [List.set_cons_succ, List.set_cons_zero]
  refine (sSeq_nx (ρ' := ρ') (S' := S') ?_).trans rfl
  unfold sFor
  have q : iR1 (aCons (eC (.int 2)) aNil) [some (.ob 0), some (.ob n), none, none, none, none, none] S1 = .ok ([.int 0, .int 1], noChk) S1 := rfl
  rw [q]; simp only [R.to_ok]
  exact e
end Z

set_option Elab.async false
set_option linter.all false
set_option maxRecDepth 100000
set_option maxHeartbeats 1000000
namespace Z
local instance : Tabs := ⟨[]⟩
open PySem L2
def body_is_whole : SF := (sRet (eAnd (eTyIs false "int" (eVar 0)) (eChain gLe gLe (eVar 1) (eVar 0) (eVar 2))))
@[irreducible] def fn_is_whole : Fn := runDef 3 body_is_whole
theorem fn_is_whole_eq : fn_is_whole = runDef 3 body_is_whole := by unfold fn_is_whole; rfl
def body_is_row : SF := (sRet (eAnd (eTyIs false "tuple" (eVar 0)) (eOp (gEqD false) (eCall gLen (aCons (eVar 0) aNil)) (eVar 1))))
@[irreducible] def fn_is_row : Fn := runDef 2 body_is_row
theorem fn_is_row_eq : fn_is_row = runDef 2 body_is_row := by unfold fn_is_row; rfl
def body_are_integers : SF := (sRet (eAnd (eFn 2 fn_is_row (aCons (eVar 0) (aCons (eVar 1) aNil))) (eAllG teInt (eVar 0))))
@[irreducible] def fn_are_integers : Fn := runDef 2 body_are_integers
theorem fn_are_integers_eq : fn_are_integers = runDef 2 body_are_integers := by unfold fn_are_integers; rfl
def body_is_dimension : SF := (sRet (eAnd (eTyIs false "int" (eVar 0)) (eOp gIn (eVar 0) (eTup (aCons (eC (.int 1)) (aCons (eC (.int 3)) (aCons (eC (.int 6)) aNil)))))))
@[irreducible] def fn_is_dimension : Fn := runDef 1 body_is_dimension
theorem fn_is_dimension_eq : fn_is_dimension = runDef 1 body_is_dimension := by unfold fn_is_dimension; rfl
def body_need_dimension : SF := (sSeq (sIf (fNot (tOf (eFn 1 fn_is_dimension (aCons (eVar 0) aNil))))
  sBad
  sNil)
  (sRet (eVar 0)))
@[irreducible] def fn_need_dimension : Fn := runDef 1 body_need_dimension
theorem fn_need_dimension_eq : fn_need_dimension = runDef 1 body_need_dimension := by unfold fn_need_dimension; rfl
def body_need_space : SF := (sSeq (sIf (tOf (eOp (gEqD false) (eFn 1 fn_need_dimension (aCons (eVar 0) aNil)) (eC (.int 1))))
  sBad
  sNil)
  (sRet (eVar 0)))
@[irreducible] def fn_need_space : Fn := runDef 1 body_need_space
theorem fn_need_space_eq : fn_need_space = runDef 1 body_need_space := by unfold fn_need_space; rfl
def body_place_width : SF := (sRet (eIf (tOf (eOp (gEqD false) (eVar 0) (eC (.int 3)))) (eC (.int 2)) (eC (.int 3))))
@[irreducible] def fn_place_width : Fn := runDef 1 body_place_width
theorem fn_place_width_eq : fn_place_width = runDef 1 body_place_width := by unfold fn_place_width; rfl
def body_is_place : SF := (sSeq (sIf (fNot (tOf (eFn 2 fn_is_row (aCons (eVar 1) (aCons (eVar 0) aNil)))))
  (sRet (eC (.bl false)))
  sNil)
  (sRet (eAllG (teWhole (-1000000000) 1000000000) (eVar 1))))
@[irreducible] def fn_is_place : Fn := runDef 2 body_is_place
theorem fn_is_place_eq : fn_is_place = runDef 2 body_is_place := by unfold fn_is_place; rfl
def body_dot : SF := (sRet (eCall gSum (aCons (eLC (iZipT (aCons (eVar 0) (aCons (eVar 1) aNil))) [2, 3] (gTupD 2 (gsCons (gN 2) (gsCons (gN 3) gsNil))) tAll (eOp gMul (eVar 2) (eVar 3))) aNil)))
@[irreducible] def fn_dot : Fn := runDef 4 body_dot
theorem fn_dot_eq : fn_dot = runDef 4 body_dot := by unfold fn_dot; rfl
def body_content : SF := (sSeq (sSet 1 (eC (.int 0)))
  (sSeq (sFor (iSeq (eVar 0)) (gN 2)
  (sSeq (sSet 1 (eCall gGcd (aCons (eVar 1) (aCons (eVar 2) aNil))))
  (sIf (tOf (eOp (gEqD false) (eVar 1) (eC (.int 1))))
  sBreak
  sNil)))
  (sRet (eVar 1))))
@[irreducible] def fn_content : Fn := runDef 3 body_content
theorem fn_content_eq : fn_content = runDef 3 body_content := by unfold fn_content; rfl
def body_need_place_at : SF := (sSeq (sIf (fNot (tOf (eFn 2 fn_is_place (aCons (eFn 1 fn_place_width (aCons (eVar 0) aNil)) (aCons (eVar 1) aNil)))))
  (sRaise "BadPlace" ["index"] (aCons (eVar 2) aNil))
  sNil)
  (sRet (eVar 1)))
@[irreducible] def fn_need_place_at : Fn := runDef 3 body_need_place_at
theorem fn_need_place_at_eq : fn_need_place_at = runDef 3 body_need_place_at := by unfold fn_need_place_at; rfl
def body_cross : SF := (sSeq (sAsg (gTupD 2 (gsCons (gTupD 3 (gsCons (gN 2) (gsCons (gN 3) (gsCons (gN 4) gsNil)))) (gsCons (gTupD 3 (gsCons (gN 5) (gsCons (gN 6) (gsCons (gN 7) gsNil)))) gsNil))) (eTup (aCons (eVar 0) (aCons (eVar 1) aNil))))
  (sRet (eTup (aCons (eOp gSub (eOp gMul (eVar 3) (eVar 7)) (eOp gMul (eVar 4) (eVar 6))) (aCons (eOp gSub (eOp gMul (eVar 4) (eVar 5)) (eOp gMul (eVar 2) (eVar 7))) (aCons (eOp gSub (eOp gMul (eVar 2) (eVar 6)) (eOp gMul (eVar 3) (eVar 5))) aNil))))))
@[irreducible] def fn_cross : Fn := runDef 8 body_cross
theorem fn_cross_eq : fn_cross = runDef 8 body_cross := by unfold fn_cross; rfl
def body_lowest : SF := (sSeq (sSet 2 (eFn 1 fn_content (aCons (eLst (aCons (eVar 0) (aStar (eVar 1) aNil))) aNil)))
  (sSeq (sIf (tOf (eOp gLt (eVar 0) (eC (.int 0))))
  (sSet 2 (eNeg (eVar 2)))
  sNil)
  (sRet (eTup (aCons (eOp gDiv (eVar 0) (eVar 2)) (aCons (eCall gTupOf (aCons (eLC (iSeq (eVar 1)) [3] (gN 3) tAll (eOp gDiv (eVar 3) (eVar 2))) aNil)) aNil))))))
@[irreducible] def fn_lowest : Fn := runDef 4 body_lowest
theorem fn_lowest_eq : fn_lowest = runDef 4 body_lowest := by unfold fn_lowest; rfl
def body_need_row : SF := (sSeq (sIf (fNot (tOf (eFn 2 fn_are_integers (aCons (eVar 0) (aCons (eVar 1) aNil)))))
  (sRaise "BadRow" ["index"] (aCons (eVar 2) aNil))
  sNil)
  (sRet (eVar 0)))
@[irreducible] def fn_need_row : Fn := runDef 3 body_need_row
theorem fn_need_row_eq : fn_need_row = runDef 3 body_need_row := by unfold fn_need_row; rfl
def body_velocity_by : SF := (sSeq (sIf (tOf (eOp (gEqD false) (eCall gLen (aCons (eVar 0) aNil)) (eC (.int 3))))
  (sRet (eTup (aCons (eOp gSub (eOp gIx (eVar 0) (eC (.int 0))) (eOp gMul (eOp gIx (eVar 0) (eC (.int 2))) (eOp gIx (eVar 1) (eC (.int 1))))) (aCons (eOp gAdd (eOp gIx (eVar 0) (eC (.int 1))) (eOp gMul (eOp gIx (eVar 0) (eC (.int 2))) (eOp gIx (eVar 1) (eC (.int 0))))) aNil))))
  sNil)
  (sRet (eCall gTupOf (aCons (eLC (iZipT (aCons (eSl (eVar 0) pNone (pSome (eC (.int 3)))) (aCons (eFn 2 fn_cross (aCons (eSl (eVar 0) (pSome (eC (.int 3))) pNone) (aCons (eVar 1) aNil))) aNil))) [2, 3] (gTupD 2 (gsCons (gN 2) (gsCons (gN 3) gsNil))) tAll (eOp gAdd (eVar 2) (eVar 3))) aNil))))
@[irreducible] def fn_velocity_by : Fn := runDef 4 body_velocity_by
theorem fn_velocity_by_eq : fn_velocity_by = runDef 4 body_velocity_by := by unfold fn_velocity_by; rfl
def body_axis : SF := (sSeq (sExpr (eFn 3 fn_need_row (aCons (eVar 0) (aCons (eC (.int 6)) (aCons (eC (.int 0)) aNil)))))
  (sSeq (sSet 1 (eSl (eVar 0) (pSome (eC (.int 3))) pNone))
  (sSeq (sIf (fNot (tOf (eCall gAny (aCons (eVar 1) aNil))))
  (sRet (eC .non))
  sNil)
  (sSeq (sAsg (gTupD 2 (gsCons (gN 2) (gsCons (gN 3) gsNil))) (eFn 2 fn_lowest (aCons (eFn 2 fn_dot (aCons (eVar 1) (aCons (eVar 1) aNil))) (aCons (eFn 2 fn_cross (aCons (eVar 1) (aCons (eSl (eVar 0) pNone (pSome (eC (.int 3)))) aNil))) aNil))))
  (sSeq (sSet 4 (eFn 1 fn_content (aCons (eVar 1) aNil)))
  (sRet (eTup (aCons (eVar 2) (aCons (eVar 3) (aCons (eCall gTupOf (aCons (eLC (iSeq (eVar 1)) [5] (gN 5) tAll (eOp gDiv (eVar 5) (eVar 4))) aNil)) aNil))))))))))
@[irreducible] def fn_axis : Fn := runDef 6 body_axis
theorem fn_axis_eq : fn_axis = runDef 6 body_axis := by unfold fn_axis; rfl
def body_pitch : SF := (sSeq (sExpr (eFn 3 fn_need_row (aCons (eVar 0) (aCons (eC (.int 6)) (aCons (eC (.int 0)) aNil)))))
  (sSeq (sSet 1 (eSl (eVar 0) (pSome (eC (.int 3))) pNone))
  (sSeq (sIf (fNot (tOf (eCall gAny (aCons (eVar 1) aNil))))
  (sRet (eC .non))
  sNil)
  (sSeq (sAsg (gTupD 2 (gsCons (gN 2) (gsCons (gTupD 1 (gsCons (gN 3) gsNil)) gsNil))) (eFn 2 fn_lowest (aCons (eFn 2 fn_dot (aCons (eVar 1) (aCons (eVar 1) aNil))) (aCons (eTup (aCons (eFn 2 fn_dot (aCons (eSl (eVar 0) pNone (pSome (eC (.int 3)))) (aCons (eVar 1) aNil))) aNil)) aNil))))
  (sRet (eTup (aCons (eVar 3) (aCons (eVar 2) aNil))))))))
@[irreducible] def fn_pitch : Fn := runDef 4 body_pitch
theorem fn_pitch_eq : fn_pitch = runDef 4 body_pitch := by unfold fn_pitch; rfl
def body_velocity : SF := (sSeq (sExpr (eFn 3 fn_need_row (aCons (eVar 1) (aCons (eFn 1 fn_need_space (aCons (eVar 0) aNil)) (aCons (eC (.int 0)) aNil)))))
  (sSeq (sExpr (eFn 3 fn_need_place_at (aCons (eVar 0) (aCons (eVar 2) (aCons (eNeg (eC (.int 1))) aNil)))))
  (sRet (eFn 2 fn_velocity_by (aCons (eVar 1) (aCons (eVar 2) aNil))))))
@[irreducible] def fn_velocity : Fn := runDef 3 body_velocity
theorem fn_velocity_eq : fn_velocity = runDef 3 body_velocity := by unfold fn_velocity; rfl
end Z

set_option Elab.async false
set_option linter.all false
set_option maxRecDepth 100000
set_option maxHeartbeats 1000000
namespace Z
local instance : Tabs := ⟨[]⟩
open PySem L2
theorem eAnd_t {f g : EF} {ρ : Rho} {S S1 : Store} (h : f ρ S = .ok (.bl true) S1) : eAnd f g ρ S = g ρ S1 := by unfold eAnd; rw [h]; rfl
theorem eAnd_f {f g : EF} {ρ : Rho} {S S1 : Store} (h : f ρ S = .ok (.bl false) S1) : eAnd f g ρ S = .ok (.bl false) S1 := by unfold eAnd; rw [h]; rfl
theorem eTyIs_of {T t : String} {f : EF} {ρ : Rho} {S S1 : Store} {d : D} (h : f ρ S = .ok d S1) (e : tyD S1 d = some t) : eTyIs false T f ρ S = .ok (.bl (decide (t = T))) S1 := by
  unfold eTyIs; rw [h]; simp only [R.bind_ok, e]; rfl
theorem gLen_tup (xs : List D) (S : Store) : gLen [.tup xs] S = .ok (.int xs.length) S := rfl
theorem is_row_ok (xs : List D) (L : Nat) (S : Store) : fn_is_row [.tup xs, .int L] S = .ok (.bl (decide (xs.length = L))) S := by
  unfold fn_is_row body_is_row
  refine runDef_rt (ρ := [some (.tup xs), some (.int L)]) rfl (sRet_of ?_)
  rw [eAnd_t (S1 := S) (eTyIs_of (d := .tup xs) rfl rfl)]
  rw [eOp_of (x := .int xs.length) (y := .int L) (S1 := S) (S2 := S) rfl rfl, eq_ints']
  have e : decide ((xs.length : Int) = (L : Int)) = decide (xs.length = L) := decide_eq_decide.mpr (by omega)
  rw [e]; rfl
theorem is_row_no {d : D} {T : String} {L : Int} {S : Store} (h : tyD S d = some T) (n : T ≠ "tuple") : fn_is_row [d, .int L] S = .ok (.bl false) S := by
  unfold fn_is_row body_is_row
  refine runDef_rt (ρ := [some d, some (.int L)]) rfl (sRet_of ?_)
  refine eAnd_f ?_
  rw [eTyIs_of (d := d) (S1 := S) rfl h, decide_eq_false n]
theorem allT_ints (ns : List Int) (S : Store) : allT teInt S (ns.map D.int) = some (ns.map fun _ => true) := by
  induction ns with
  | nil => rfl
  | cons n ns ih => simp only [List.map_cons, allT, ih]; rfl
theorem allT_bad {S : Store} : ∀ {xs : List D}, (∀ x ∈ xs, ∃ T, tyD S x = some T) → ∃ bs, allT teInt S xs = some bs ∧ ((∃ x ∈ xs, ∃ T, tyD S x = some T ∧ T ≠ "int") → bs.all id = false)
  | [], _ => ⟨[], rfl, fun ⟨x, h, _⟩ => by simp at h⟩
  | x :: xs, h => by
    obtain ⟨T, e⟩ := h x List.mem_cons_self
    obtain ⟨bs, e2, f⟩ := allT_bad (xs := xs) fun y hy => h y (List.mem_cons_of_mem _ hy)
    have e3 : teInt x S = some (decide (T = "int")) := by unfold teInt; rw [e]; rfl
    refine ⟨decide (T = "int") :: bs, by simp only [allT, e3, e2], ?_⟩
    rintro ⟨y, hy, U, hU, n⟩
    rcases List.mem_cons.mp hy with z | z
    · subst z
      rw [e] at hU; cases hU
      simp [n]
    · have := f ⟨y, z, U, hU, n⟩
      simp [this]
theorem are_integers_ok (ns : List Int) (S : Store) : fn_are_integers [.tup (ns.map D.int), .int ns.length] S = .ok (.bl true) S := by
  unfold fn_are_integers body_are_integers
  refine runDef_rt (ρ := [some (.tup (ns.map D.int)), some (.int ns.length)]) rfl (sRet_of ?_)
  rw [eAnd_t (S1 := S) (fn2 (S1 := S) (S2 := S) rfl rfl ((is_row_ok _ ns.length S).trans (by simp)))]
  unfold eAllG
  simp only [eVar, List.getElem?_cons_zero, R.bind_ok, allT_ints]
  simp
theorem are_integers_no {d : D} {L : Nat} {S : Store} (h : NotRow L S d) : fn_are_integers [d, .int L] S = .ok (.bl false) S := by
  unfold fn_are_integers body_are_integers
  refine runDef_rt (ρ := [some d, some (.int L)]) rfl (sRet_of ?_)
  rcases h with ⟨T, h, n⟩ | ⟨xs, rfl, hl, h⟩
  · exact eAnd_f (fn2 (S1 := S) (S2 := S) rfl rfl (is_row_no h n))
  · by_cases z : xs.length = L
    · rw [eAnd_t (S1 := S) (fn2 (S1 := S) (S2 := S) rfl rfl ((is_row_ok xs L S).trans (by simp [z])))]
      rcases h with h | ⟨h1, h2⟩
      · exact (h z).elim
      · obtain ⟨bs, e, f⟩ := allT_bad h1
        unfold eAllG
        simp only [eVar, List.getElem?_cons_zero, R.bind_ok, e, f h2]
    · exact eAnd_f (fn2 (S1 := S) (S2 := S) rfl rfl ((is_row_ok xs L S).trans (by simp [z])))
theorem need_row_ok (ns : List Int) (k : Int) (S : Store) : fn_need_row [.tup (ns.map D.int), .int ns.length, .int k] S = .ok (.tup (ns.map D.int)) S := by
  unfold fn_need_row body_need_row
  refine runDef_rt (ρ := [some (.tup (ns.map D.int)), some (.int ns.length), some (.int k)]) rfl ?_
  exact (skip (not_t (fn2 (S1 := S) (S2 := S) rfl rfl (are_integers_ok ns S)))).trans rfl
theorem runDef_exc {N : Nat} {g : SF} {ds : List D} {S S' : Store} {ρ ρ' : Rho} {c : Str} {fs : List (Str × D)} (h : ds.map some ++ List.replicate (N - ds.length) none = ρ) (e : g ρ S = .exc c fs ρ' S') : runDef N g ds S = .exc c fs S' := by unfold runDef; rw [h, e]
theorem sSeq_exc {g h : SF} {ρ ρ' : Rho} {S S' : Store} {c : Str} {fs : List (Str × D)} (e : g ρ S = .exc c fs ρ' S') : sSeq g h ρ S = .exc c fs ρ' S' := by unfold sSeq; rw [e]
theorem need_row_no {d : D} {L : Nat} {S : Store} (h : NotRow L S d) (k : Int) : fn_need_row [d, .int L, .int k] S = .exc "BadRow" [("index", .int k)] S := by
  unfold fn_need_row body_need_row
  refine runDef_exc (ρ := [some d, some (.int L), some (.int k)]) (ρ' := [some d, some (.int L), some (.int k)]) rfl (sSeq_exc ?_)
  have e : fNot (tOf (eFn 2 fn_are_integers (aCons (eVar 0) (aCons (eVar 1) aNil)))) [some d, some (.int L), some (.int k)] S = .ok true S := fNot_of (tOf_of (fn2 (S1 := S) (S2 := S) rfl rfl (are_integers_no h)))
  rw [sIf_of e, if_pos rfl]
  rfl
theorem lc_zipT {fa : AF} {xs ys : List Int} {ρ : Rho} {S S1 : Store} {vs : List Nat} {gg : GF} {te : EF} {f : Int → Int → Int} (hf : fa ρ S = .ok [.tup (xs.map D.int), .tup (ys.map D.int)] S1) (hl : xs.length ≤ 1000)
    (he : ∀ x y, (x, y) ∈ xs.zip ys → ∃ ρ1, gg (.tup [.int x, .int y]) (wipeD ρ vs) = some ρ1 ∧ te ρ1 S1 = .ok (.int (f x y)) S1) :
    eLC (iZipT fa) vs gg tAll te ρ S = .ok (.ob S1.length) (S1 ++ [.lst (((xs.zip ys).map fun p => f p.1 p.2).map D.int)]) := by
  have hz : zipD (xs.map D.int) (ys.map D.int) = (xs.zip ys).map fun p => D.tup [.int p.1, .int p.2] := by
    unfold zipD; rw [List.zip_map, List.map_map]; rfl
  unfold eLC iZipT
  rw [hf]; simp only [R.bind_ok, hz]
  rw [lcLoop_pure (f := fun d => match d with | .tup [.int x, .int y] => .int (f x y) | d => d) rfl _ _ (by have : LIM = 16777216 := rfl; simp; omega)]
  · simp only [R.bind_ok, newL, List.nil_append, List.map_map]; rfl
  · intro x hx
    obtain ⟨p, hp, rfl⟩ := List.mem_map.mp hx
    obtain ⟨ρ1, h1, h2⟩ := he p.1 p.2 hp
    exact ⟨ρ1, h1, h2⟩
theorem dot_ok {xs ys : List Int} {S : Store} (hl : xs.length ≤ 1000) (hx : ∀ x ∈ xs, Bd 400000 x) (hy : ∀ y ∈ ys, Bd 400000 y) :
    ∃ S', fn_dot [.tup (xs.map D.int), .tup (ys.map D.int)] S = .ok (.int (dotZ xs ys)) S' ∧ Grow S S' := by
  have e := lc_zipT (fa := aCons (eVar 0) (aCons (eVar 1) aNil)) (ρ := [some (.tup (xs.map D.int)), some (.tup (ys.map D.int)), none, none]) (S := S) (vs := [2, 3]) (gg := gTupD 2 (gsCons (gN 2) (gsCons (gN 3) gsNil))) (te := eOp gMul (eVar 2) (eVar 3)) (f := fun x y => x * y) (xs := xs) (ys := ys) rfl hl fun x y h => by
    have hm := List.of_mem_zip h
    exact ⟨[some _, some _, some (.int x), some (.int y)], rfl, gMul_bd (hx x hm.1) (hy y hm.2) (by decide) (by decide) (by decide) S⟩
  refine ⟨S ++ [.lst (((xs.zip ys).map fun p => p.1 * p.2).map D.int)], ?_, .one S _⟩
  unfold fn_dot body_dot
  refine runDef_rt (ρ := [some (.tup (xs.map D.int)), some (.tup (ys.map D.int)), none, none]) rfl (sRet_of (call1 e ?_))
  simp only [gSum, asL, at_last, intsD_of]
  rfl
theorem B3.list {k : Nat} {p : I3} (h : B3 k p) : ∀ x ∈ [p.1, p.2.1, p.2.2], Bd k x := by
  intro x hx
  simp only [List.mem_cons, List.not_mem_nil, or_false] at hx
  rcases hx with rfl | rfl | rfl
  · exact h.1
  · exact h.2.1
  · exact h.2.2
theorem dotZ3 (p q : I3) : dotZ [p.1, p.2.1, p.2.2] [q.1, q.2.1, q.2.2] = dot3 p q := by simp [dotZ, dot3]; omega
theorem dot_t3 {p q : I3} (S : Store) (hp : B3 400000 p) (hq : B3 400000 q) : ∃ S', fn_dot [t3 p, t3 q] S = .ok (.int (dot3 p q)) S' ∧ Grow S S' := by
  obtain ⟨S', e, g⟩ := dot_ok (xs := [p.1, p.2.1, p.2.2]) (ys := [q.1, q.2.1, q.2.2]) (S := S) (by simp) hp.list hq.list
  exact ⟨S', by rw [← dotZ3]; exact e, g⟩
theorem cross_ok {p q : I3} (S : Store) (hp : B3 400000 p) (hq : B3 400000 q) : fn_cross [t3 p, t3 q] S = .ok (t3 (crossZ p q)) S := by
  obtain ⟨a, b, c⟩ := p
  obtain ⟨x, y, z⟩ := q
  obtain ⟨A, B, C⟩ := hp
  obtain ⟨X, Y, Z⟩ := hq
  unfold fn_cross body_cross
  refine runDef_rt (ρ := [some (t3 (a, b, c)), some (t3 (x, y, z)), none, none, none, none, none, none]) rfl ?_
  refine (sSeq_nx (ρ' := [some (t3 (a, b, c)), some (t3 (x, y, z)), some (.int a), some (.int b), some (.int c), some (.int x), some (.int y), some (.int z)]) (S' := S) rfl).trans ?_
  refine sRet_of ?_
  have m : ∀ {i j : Nat} {u v : Int} {ρ : Rho}, ρ[i]? = some (some (.int u)) → ρ[j]? = some (some (.int v)) → Bd 400000 u → Bd 400000 v → eOp gMul (eVar i) (eVar j) ρ S = .ok (.int (u * v)) S := fun {i j u v ρ} h1 h2 b1 b2 => by
    rw [eOp_of (x := .int u) (y := .int v) (S1 := S) (S2 := S) (eVar_at S h1) (eVar_at S h2)]
    exact gMul_bd b1 b2 (by decide) (by decide) (by decide) S
  have s : ∀ {f g : EF} {u v : Int} {ρ : Rho}, f ρ S = .ok (.int u) S → g ρ S = .ok (.int v) S → eOp gSub f g ρ S = .ok (.int (u - v)) S := fun {f g u v ρ} h1 h2 => by
    rw [eOp_of h1 h2]; rfl
  exact eTup_of (xs := [.int (b * z - c * y), .int (c * x - a * z), .int (a * y - b * x)]) (aCons_of (s (m rfl rfl B Z) (m rfl rfl C Y)) (aCons_of (s (m rfl rfl C X) (m rfl rfl A Z)) (aCons1 (s (m rfl rfl A Y) (m rfl rfl B X))))) (by show 3 ≤ 1000; decide)
theorem gcd_one (xs : List Int) : xs.foldl (fun s x => Nat.gcd x.natAbs s) 1 = 1 := by
  induction xs with
  | nil => rfl
  | cons x xs ih => simp only [List.foldl_cons, Nat.gcd_one_right]; exact ih
abbrev contentBody : SF := (sSeq (sSet 1 (eCall gGcd (aCons (eVar 1) (aCons (eVar 2) aNil))))
  (sIf (tOf (eOp (gEqD false) (eVar 1) (eC (.int 1)))) sBreak sNil))
theorem content_turn (a : Option D) (s : Nat) (x : Int) (S : Store) : contentBody [a, some (.int s), some (.int x)] S = if Nat.gcd x.natAbs s = 1 then .bk [a, some (.int (1 : Nat)), some (.int x)] S else .nx [a, some (.int (Nat.gcd x.natAbs s : Nat)), some (.int x)] S := by
  refine (sSeq_nx (ρ' := [a, some (.int (Nat.gcd x.natAbs s : Nat)), some (.int x)]) (S' := S) (by
    refine (sSet_of (d := .int (Nat.gcd x.natAbs s : Nat)) (S1 := S) ?_).trans rfl
    show R.ok (D.int ((Nat.gcd ((s : Int).natAbs) x.natAbs : Nat) : Int)) S = _
    rw [Int.natAbs_natCast, Nat.gcd_comm])).trans ?_
  have e : tOf (eOp (gEqD false) (eVar 1) (eC (.int 1))) [a, some (.int (Nat.gcd x.natAbs s : Nat)), some (.int x)] S = .ok (decide (((Nat.gcd x.natAbs s : Nat) : Int) = 1)) S := tEqI rfl
  rw [sIf_of e]
  by_cases h : Nat.gcd x.natAbs s = 1
  · rw [if_pos (by simp [h]), if_pos h, h]; rfl
  · rw [if_neg (by simp; omega), if_neg h]; rfl
theorem content_loop {gd : Store → Bool} {S : Store} (hg : gd S = true) (a : Option D) : ∀ (xs : List Int) (s : Nat) (t : Option D), ∃ t', loop (gN 2) gd contentBody (xs.map D.int) [a, some (.int s), t] S = .nx [a, some (.int (xs.foldl (fun s x => Nat.gcd x.natAbs s) s : Nat)), t'] S
  | [], s, t => ⟨t, by rw [List.map_nil, loop_nil hg]; rfl⟩
  | x :: xs, s, t => by
    by_cases h : Nat.gcd x.natAbs s = 1
    · refine ⟨some (.int x), ?_⟩
      rw [List.map_cons, loop.eq_def]
      simp only [if_pos hg, gN, List.set_cons_succ, List.set_cons_zero]
      rw [content_turn, if_pos h, List.foldl_cons, h, gcd_one]
    · obtain ⟨t', e⟩ := content_loop hg a xs (Nat.gcd x.natAbs s) (some (.int x))
      refine ⟨t', ?_⟩
      rw [List.map_cons, loop_nx (ρ1 := [a, some (.int s), some (.int x)]) (ρ2 := [a, some (.int (Nat.gcd x.natAbs s : Nat)), some (.int x)]) (S2 := S) hg rfl (by rw [content_turn, if_neg h]), e, List.foldl_cons]
theorem iSeq_of {f : EF} {ρ : Rho} {S S1 : Store} {a : D} {xs : List D} (h : f ρ S = .ok a S1) (ha : asQ S1 a = some xs) : ∃ gd : Store → Bool, gd S1 = true ∧ iSeq f ρ S = .ok (xs, gd) S1 := by
  unfold iSeq
  rw [h]; simp only [R.bind_ok]
  by_cases z : ∃ zs, a = .tup zs
  · obtain ⟨zs, rfl⟩ := z
    have e : zs = xs := Option.some.inj ha
    subst e
    exact ⟨noChk, rfl, rfl⟩
  · have ha' : asL S1 a = some xs := by cases a <;> first | exact ha | exact (z ⟨_, rfl⟩).elim
    refine ⟨chkL a xs, chkL_ok.mpr ha', ?_⟩
    cases a <;> first | exact (z ⟨_, rfl⟩).elim | (simp only [ha'])
theorem content_ok {a : D} {xs : List Int} {S : Store} (ha : asQ S a = some (xs.map D.int)) : fn_content [a] S = .ok (.int (shareZ xs : Nat)) S := by
  unfold fn_content body_content
  refine runDef_rt (ρ := [some a, none, none]) rfl ?_
  rw [sSeq_nx (sSet_of (d := .int 0) (S1 := S) rfl)]
  simp only [List.set_cons_succ, List.set_cons_zero]
  obtain ⟨gd, hg, e⟩ := iSeq_of (f := eVar 0) (ρ := [some a, some (.int 0), none]) (S := S) rfl ha
  obtain ⟨t', e2⟩ := content_loop hg (some a) xs 0 none
  rw [sSeq_nx (ρ' := [some a, some (.int (shareZ xs : Nat)), t']) (S' := S) ?_]
  · rfl
  · unfold sFor
    rw [e]; simp only [R.to_ok]
    exact e2
theorem share_le {xs : List Int} {x : Int} (h : x ∈ xs) (nz : x ≠ 0) : shareZ xs ≤ x.natAbs := by
  have := share_dvd h
  have h2 : (shareZ xs) ∣ x.natAbs := Int.ofNat_dvd_left.mp this
  exact Nat.le_of_dvd (by omega) h2
theorem div_list {gd : Store → Bool} {ρ0 : Rho} {S : Store} {gg : GF} {te : EF} {k : Int} (xs : List Int) (hg : gd S = true) (hl : xs.length ≤ 1000) (h : ∀ x : Int, ∃ ρ1, gg (.int x) ρ0 = some ρ1 ∧ te ρ1 S = .ok (.int (x / k)) S) : lcLoop gg tAll te gd ρ0 (xs.map D.int) [] S = .ok ((xs.map fun x => x / k).map D.int) S := by
  rw [lcLoop_pure (f := fun d => match d with | .int x => .int (x / k) | d => d) hg _ _ (by have : LIM = 16777216 := rfl; simp; omega)]
  · rw [List.nil_append, List.map_map, List.map_map]; rfl
  · intro d hd
    obtain ⟨x, _, rfl⟩ := List.mem_map.mp hd
    exact h x
theorem lowest_ok {c : Int} {ns : List Int} {S : Store} (h0 : 0 < c) (hb : Bd 900 c) (hl : ns.length ≤ 500) :
    ∃ S', fn_lowest [.int c, .tup (ns.map D.int)] S = .ok (.tup [.int (c / (shareZ (c :: ns) : Int)), .tup ((ns.map fun x => x / (shareZ (c :: ns) : Int)).map D.int)]) S' ∧ Grow S S' := by
  have hp : 1 ≤ shareZ (c :: ns) := share_pos (x := c) List.mem_cons_self (by omega)
  have hs : shareZ (c :: ns) < 2 ^ 900 := Nat.lt_of_le_of_lt (share_le List.mem_cons_self (by omega)) hb
  have lg : ((shareZ (c :: ns) : Nat) : Int).natAbs.log2 < 9000 := Nat.lt_of_lt_of_le (Bd.log (a := 900) (i := (shareZ (c :: ns) : Nat)) (by unfold Bd; simpa using hs) (by decide)) (by decide)
  let S1 := S ++ [.lst ((c :: ns).map D.int)]
  have e1 : eLst (aCons (eVar 0) (aStar (eVar 1) aNil)) [some (.int c), some (.tup (ns.map D.int)), none, none] S = .ok (.ob S.length) S1 := by
    refine eLst_of (S1 := S) (xs := .int c :: (ns.map D.int)) ?_ (by simp; omega)
    unfold aCons aStar aNil eVar
    simp [asQ]
  have e2 : fn_content [.ob S.length] S1 = .ok (.int (shareZ (c :: ns) : Nat)) S1 := content_ok (xs := c :: ns) (by simp only [asQ, asL, S1, at_last])
  have dv : ∀ {x : Int} {f g : EF} {ρ : Rho}, f ρ S1 = .ok (.int x) S1 → g ρ S1 = .ok (.int (shareZ (c :: ns) : Nat)) S1 → eOp gDiv f g ρ S1 = .ok (.int (x / (shareZ (c :: ns) : Int))) S1 := fun {x f g ρ} h1 h2 => by
    rw [eOp_of h1 h2]
    exact gDiv_int (by omega) lg S1
  refine ⟨S1 ++ [.lst ((ns.map fun x => x / (shareZ (c :: ns) : Int)).map D.int)], ?_, (Grow.one _ _).trans (Grow.one _ _)⟩
  unfold fn_lowest body_lowest
  refine runDef_rt (ρ := [some (.int c), some (.tup (ns.map D.int)), none, none]) rfl ?_
  rw [sSeq_nx (sSet_of (d := .int (shareZ (c :: ns) : Nat)) (S1 := S1) (fn1 e1 e2))]
  simp only [List.set_cons_succ, List.set_cons_zero]
  refine (skip (ltI (S1 := S1) (S2 := S1) rfl rfl (by omega))).trans (sRet_of ?_)
  have e3 : eLC (iSeq (eVar 1)) [3] (gN 3) tAll (eOp gDiv (eVar 3) (eVar 2)) [some (.int c), some (.tup (ns.map D.int)), some (.int (shareZ (c :: ns) : Nat)), none] S1 = .ok (.ob S1.length) (S1 ++ [.lst ((ns.map fun x => x / (shareZ (c :: ns) : Int)).map D.int)]) := by
    obtain ⟨gd, hg, e⟩ := iSeq_of (f := eVar 1) (ρ := [some (.int c), some (.tup (ns.map D.int)), some (.int (shareZ (c :: ns) : Nat)), none]) (S := S1) (a := .tup (ns.map D.int)) (xs := ns.map D.int) rfl rfl
    unfold eLC
    rw [e]; simp only [R.bind_ok]
    rw [div_list ns hg (by omega) fun x => ⟨[some (.int c), some (.tup (ns.map D.int)), some (.int (shareZ (c :: ns) : Nat)), some (.int x)], rfl, dv rfl rfl⟩]
    rfl
  exact eTup_of (aCons_of (S1 := S1) (dv rfl rfl) (aCons1 (call1 e3 (by simp only [gTupOf, asL, at_last])))) (by show 2 ≤ 1000; decide)
end Z

set_option Elab.async false
set_option linter.all false
set_option maxRecDepth 100000
set_option maxHeartbeats 1000000
namespace Z
local instance : Tabs := ⟨[]⟩
open PySem L2
theorem sExpr_of {f : EF} {ρ : Rho} {S S1 : Store} {d : D} (e : f ρ S = .ok d S1) : sExpr f ρ S = .nx ρ S1 := by unfold sExpr; rw [e]; rfl
theorem sExpr_exc {f : EF} {ρ : Rho} {S S1 : Store} {c : Str} {fs : List (Str × D)} (e : f ρ S = .exc c fs S1) : sExpr f ρ S = .exc c fs ρ S1 := by unfold sExpr; rw [e]; rfl
theorem need6 (v w : I3) (k : Int) (S : Store) : fn_need_row [t6 v w, .int 6, .int k] S = .ok (t6 v w) S := need_row_ok [v.1, v.2.1, v.2.2, w.1, w.2.1, w.2.2] k S
theorem any3 (w : I3) (S : Store) : gAny [t3 w] S = .ok (.bl (!decide (w = (0, 0, 0)))) S := by
  obtain ⟨a, b, c⟩ := w
  show R.ok (D.bl ([a, b, c].any fun n => n != 0)) S = _
  congr 2
  by_cases h1 : a = 0 <;> by_cases h2 : b = 0 <;> by_cases h3 : c = 0 <;> simp [h1, h2, h3]
/-- «if not any(turning): return None» -/
theorem none_if {i : Nat} {ρ : Rho} {S : Store} {w : I3} (h : ρ[i]? = some (some (t3 w))) : fNot (tOf (eCall gAny (aCons (eVar i) aNil))) ρ S = .ok (decide (w = (0, 0, 0))) S := by
  rw [fNot_of (tOf_of (call1 (S1 := S) (eVar_at S h) (any3 w S)))]; simp
theorem need_bad {N : Nat} {h : SF} {d : D} {S : Store} (hd : NotRow 6 S d) : runDef (N + 1) (sSeq (sExpr (eFn 3 fn_need_row (aCons (eVar 0) (aCons (eC (.int 6)) (aCons (eC (.int 0)) aNil))))) h) [d] S = .exc "BadRow" [("index", .int 0)] S := by
  refine runDef_exc (ρ := some d :: List.replicate N none) (ρ' := some d :: List.replicate N none) (by simp) (sSeq_exc (sExpr_exc ?_))
  rw [eFn_of (n := 3) (xs := [d, .int 6, .int 0]) (S1 := S) rfl rfl]
  exact need_row_no (L := 6) hd 0
theorem share_two (a b : Int) : shareZ [a, b] = shareZ [b, a] := by
  simp [shareZ, Nat.gcd_comm]
theorem axis_ok : MotOk fn_axis dueAxis := by
  refine ⟨fun v S hv => ⟨S, ?_, .refl S⟩, fun v w S hv hw nz => ?_, fun d S h => ⟨S, by unfold fn_axis body_axis; exact need_bad (N := 5) h, .refl S⟩⟩
  · unfold fn_axis body_axis
    refine runDef_rt (ρ := [some (t6 v (0, 0, 0)), none, none, none, none, none]) rfl ?_
    refine (sSeq_nx (sExpr_of (S1 := S) (fn3 (S1 := S) (S2 := S) (S3 := S) rfl rfl rfl (need6 v (0, 0, 0) 0 S)))).trans ?_
    refine (sSeq_nx (sSet_of (d := t3 (0, 0, 0)) (S1 := S) rfl)).trans ?_
    simp only [List.set_cons_succ, List.set_cons_zero]
    refine sSeq_rt ?_
    rw [sIf_of (none_if rfl), if_pos (by simp)]
    rfl
  · have pw := dot3_pos nz
    have kp : shareZ (row3 w) ≠ 0 := fun z => by
      have h1 : ∀ x ∈ row3 w, x = 0 := fun x hx => by
        have := share_dvd hx
        rw [z] at this
        exact Int.zero_dvd.mp this
      apply nz
      obtain ⟨a, b, c⟩ := w
      have := h1 a (by simp [row3]); have := h1 b (by simp [row3]); have := h1 c (by simp [row3])
      simp_all
    have b2 : Bd 900 (dot3 w w) := (dot3_bd hw hw).mono (by decide)
    obtain ⟨S1, e1, g1⟩ := dot_t3 (p := w) (q := w) S (hw.mono (by decide)) (hw.mono (by decide))
    have e2 := cross_ok (p := w) (q := v) S1 (hw.mono (by decide)) (hv.mono (by decide))
    obtain ⟨S3, e3, g3⟩ := lowest_ok (c := dot3 w w) (ns := [(crossZ w v).1, (crossZ w v).2.1, (crossZ w v).2.2]) (S := S1) (by omega) b2 (by simp)
    have e4 : fn_content [t3 w] S3 = .ok (.int (shareZ (row3 w) : Nat)) S3 := content_ok (xs := row3 w) rfl
    have hs : shareZ (row3 w) < 2 ^ 900 := by
      obtain ⟨a, b, c⟩ := w
      have bw := hw.mono (show 100 ≤ 900 by decide)
      by_cases ha : a = 0
      · by_cases hb : b = 0
        · have hc : c ≠ 0 := fun hc => nz (by rw [ha, hb, hc])
          exact Nat.lt_of_le_of_lt (share_le (x := c) (by simp [row3]) hc) bw.2.2
        · exact Nat.lt_of_le_of_lt (share_le (x := b) (by simp [row3]) hb) bw.2.1
      · exact Nat.lt_of_le_of_lt (share_le (x := a) (by simp [row3]) ha) bw.1
    have lg : ((shareZ (row3 w) : Nat) : Int).natAbs.log2 < 9000 := Nat.lt_of_lt_of_le (Bd.log (a := 900) (i := (shareZ (row3 w) : Nat)) (by unfold Bd; simpa using hs) (by decide)) (by decide)
    let cn : D := .int (dot3 w w / (shareZ (ax4 v w) : Int))
    let nu : D := t3 (div3 (crossZ w v) (shareZ (ax4 v w)))
    refine ⟨S3 ++ [.lst (((row3 w).map fun x => x / (shareZ (row3 w) : Int)).map D.int)], ?_, g1.trans (g3.trans (.one _ _))⟩
    unfold fn_axis body_axis
    refine runDef_rt (ρ := [some (t6 v w), none, none, none, none, none]) rfl ?_
    refine (sSeq_nx (sExpr_of (S1 := S) (fn3 (S1 := S) (S2 := S) (S3 := S) rfl rfl rfl (need6 v w 0 S)))).trans ?_
    refine (sSeq_nx (sSet_of (d := t3 w) (S1 := S) rfl)).trans ?_
    simp only [List.set_cons_succ, List.set_cons_zero]
    refine (skip (S1 := S) ((none_if (w := w) rfl).trans (by rw [decide_eq_false nz]))).trans ?_
    refine (sSeq_nx (ρ' := [some (t6 v w), some (t3 w), some cn, some nu, none, none]) (S' := S3) ?_).trans ?_
    · unfold sAsg
      rw [fn2 (S1 := S1) (S2 := S1) (fn2 (S1 := S) (S2 := S) rfl rfl e1) (fn2 (S1 := S1) (S2 := S1) rfl rfl e2) e3]
      rfl
    refine (sSeq_nx (sSet_of (d := .int (shareZ (row3 w) : Nat)) (S1 := S3) (fn1 (S1 := S3) rfl e4))).trans ?_
    simp only [List.set_cons_succ, List.set_cons_zero]
    refine sRet_of ?_
    have e5 : eLC (iSeq (eVar 1)) [5] (gN 5) tAll (eOp gDiv (eVar 5) (eVar 4)) [some (t6 v w), some (t3 w), some cn, some nu, some (.int (shareZ (row3 w) : Nat)), none] S3 = .ok (.ob S3.length) (S3 ++ [.lst (((row3 w).map fun x => x / (shareZ (row3 w) : Int)).map D.int)]) := by
      obtain ⟨gd, hg, e⟩ := iSeq_of (f := eVar 1) (ρ := [some (t6 v w), some (t3 w), some cn, some nu, some (.int (shareZ (row3 w) : Nat)), none]) (S := S3) (a := t3 w) (xs := (row3 w).map D.int) rfl rfl
      unfold eLC
      rw [e]; simp only [R.bind_ok]
      rw [div_list (row3 w) hg (by show 3 ≤ 1000; decide) fun x => ⟨[some (t6 v w), some (t3 w), some cn, some nu, some (.int (shareZ (row3 w) : Nat)), some (.int x)], rfl, by
        rw [eOp_of (x := .int x) (y := .int (shareZ (row3 w) : Nat)) (S1 := S3) (S2 := S3) rfl rfl]
        exact gDiv_int (by omega) lg S3⟩]
      rfl
    exact eTup_of (xs := [cn, nu, t3 (div3 w (shareZ (row3 w)))]) (aCons_of (S1 := S3) rfl (aCons_of (S1 := S3) rfl (aCons1 (call1 e5 (by simp only [gTupOf, asL, at_last]; rfl))))) (by show 3 ≤ 1000; decide)
theorem pitch_ok : MotOk fn_pitch duePitch := by
  refine ⟨fun v S hv => ⟨S, ?_, .refl S⟩, fun v w S hv hw nz => ?_, fun d S h => ⟨S, by unfold fn_pitch body_pitch; exact need_bad (N := 3) h, .refl S⟩⟩
  · unfold fn_pitch body_pitch
    refine runDef_rt (ρ := [some (t6 v (0, 0, 0)), none, none, none]) rfl ?_
    refine (sSeq_nx (sExpr_of (S1 := S) (fn3 (S1 := S) (S2 := S) (S3 := S) rfl rfl rfl (need6 v (0, 0, 0) 0 S)))).trans ?_
    refine (sSeq_nx (sSet_of (d := t3 (0, 0, 0)) (S1 := S) rfl)).trans ?_
    simp only [List.set_cons_succ, List.set_cons_zero]
    refine sSeq_rt ?_
    rw [sIf_of (none_if rfl), if_pos (by simp)]
    rfl
  · have pw := dot3_pos nz
    have b2 : Bd 900 (dot3 w w) := (dot3_bd hw hw).mono (by decide)
    obtain ⟨S1, e1, g1⟩ := dot_t3 (p := w) (q := w) S (hw.mono (by decide)) (hw.mono (by decide))
    obtain ⟨S2, e2, g2⟩ := dot_t3 (p := v) (q := w) S1 (hv.mono (by decide)) (hw.mono (by decide))
    obtain ⟨S3, e3, g3⟩ := lowest_ok (c := dot3 w w) (ns := [dot3 v w]) (S := S2) (by omega) b2 (by simp)
    rw [share_two] at e3
    refine ⟨S3, ?_, g1.trans (g2.trans g3)⟩
    unfold fn_pitch body_pitch
    refine runDef_rt (ρ := [some (t6 v w), none, none, none]) rfl ?_
    refine (sSeq_nx (sExpr_of (S1 := S) (fn3 (S1 := S) (S2 := S) (S3 := S) rfl rfl rfl (need6 v w 0 S)))).trans ?_
    refine (sSeq_nx (sSet_of (d := t3 w) (S1 := S) rfl)).trans ?_
    simp only [List.set_cons_succ, List.set_cons_zero]
    refine (skip (S1 := S) ((none_if (w := w) rfl).trans (by rw [decide_eq_false nz]))).trans ?_
    refine (sSeq_nx (ρ' := [some (t6 v w), some (t3 w), some (.int (dot3 w w / (shareZ (pi2 v w) : Int))), some (.int (dot3 v w / (shareZ (pi2 v w) : Int)))]) (S' := S3) ?_).trans rfl
    unfold sAsg
    rw [fn2 (S1 := S1) (S2 := S2) (fn2 (S1 := S) (S2 := S) rfl rfl e1) (eTup_of (xs := [.int (dot3 v w)]) (aCons1 (fn2 (S1 := S1) (S2 := S1) (a := t3 v) (b := t3 w) rfl rfl e2)) (by show 1 ≤ 1000; decide)) e3]
    rfl
theorem is_place_ok {p : I3} (h : In3 1000000000 p) (S : Store) : fn_is_place [.int 3, t3 p] S = .ok (.bl true) S := by
  obtain ⟨a, b, c⟩ := p
  obtain ⟨⟨a1, a2⟩, ⟨b1, b2⟩, c1, c2⟩ := h
  unfold fn_is_place body_is_place
  refine runDef_rt (ρ := [some (.int 3), some (t3 (a, b, c))]) rfl ?_
  refine (skip (S1 := S) (not_t (fn2 (S1 := S) (S2 := S) rfl rfl (is_row_ok _ 3 S)))).trans (sRet_of ?_)
  unfold eAllG
  have e : allT (teWhole (-1000000000) 1000000000) S [.int a, .int b, .int c] = some [true, true, true] := by
    simp only at a1 a2 b1 b2 c1 c2
    simp [allT, teWhole, a1, a2, b1, b2, c1, c2]
  simp only [eVar, List.getElem?_cons_zero, List.getElem?_cons_succ, R.bind_ok, t3, e]
  rfl
theorem need_space6 (S : Store) : fn_need_space [.int 6] S = .ok (.int 6) S := by
  have e0 : fn_is_dimension [.int 6] S = .ok (.bl true) S := by
    unfold fn_is_dimension body_is_dimension
    refine runDef_rt (ρ := [some (.int 6)]) rfl (sRet_of ?_)
    rw [eAnd_t (S1 := S) (eTyIs_of (d := .int 6) rfl rfl)]
    rfl
  have e1 : fn_need_dimension [.int 6] S = .ok (.int 6) S := by
    unfold fn_need_dimension body_need_dimension
    refine runDef_rt (ρ := [some (.int 6)]) rfl ?_
    exact (skip (S1 := S) (not_t (fn1 (S1 := S) rfl e0))).trans rfl
  unfold fn_need_space body_need_space
  refine runDef_rt (ρ := [some (.int 6)]) rfl ?_
  exact (skip (S1 := S) (tEqI (i := 6) (j := 1) (fn1 (S1 := S) rfl e1))).trans rfl
theorem need_place6 {p : I3} (h : In3 1000000000 p) (k : Int) (S : Store) : fn_need_place_at [.int 6, t3 p, .int k] S = .ok (t3 p) S := by
  have e0 : fn_place_width [.int 6] S = .ok (.int 3) S := by
    unfold fn_place_width body_place_width
    refine runDef_rt (ρ := [some (.int 6)]) rfl (sRet_of ?_)
    unfold eIf
    have e : tOf (eOp (gEqD false) (eVar 0) (eC (.int 3))) [some (.int 6)] S = .ok (decide ((6 : Int) = 3)) S := tEqI rfl
    rw [e]; rfl
  unfold fn_need_place_at body_need_place_at
  refine runDef_rt (ρ := [some (.int 6), some (t3 p), some (.int k)]) rfl ?_
  exact (skip (S1 := S) (not_t (fn2 (S1 := S) (S2 := S) (fn1 (S1 := S) rfl e0) rfl (is_place_ok h S)))).trans rfl
theorem plusZip (v c : I3) : ([v.1, v.2.1, v.2.2].zip [c.1, c.2.1, c.2.2]).map (fun p => p.1 + p.2) = [(plus3 v 1 c).1, (plus3 v 1 c).2.1, (plus3 v 1 c).2.2] := by simp [plus3]
theorem velocity_by_ok {v w p : I3} (S : Store) (hw : B3 400000 w) (hp : B3 400000 p) : ∃ S', fn_velocity_by [t6 v w, t3 p] S = .ok (t3 (plus3 v 1 (crossZ w p))) S' ∧ Grow S S' := by
  have e1 := cross_ok (p := w) (q := p) S hw hp
  have e2 := lc_zipT (fa := aCons (eSl (eVar 0) pNone (pSome (eC (.int 3)))) (aCons (eFn 2 fn_cross (aCons (eSl (eVar 0) (pSome (eC (.int 3))) pNone) (aCons (eVar 1) aNil))) aNil)) (ρ := [some (t6 v w), some (t3 p), none, none]) (S := S) (S1 := S) (vs := [2, 3]) (gg := gTupD 2 (gsCons (gN 2) (gsCons (gN 3) gsNil))) (te := eOp gAdd (eVar 2) (eVar 3)) (f := fun x y => x + y)
    (xs := [v.1, v.2.1, v.2.2]) (ys := [(crossZ w p).1, (crossZ w p).2.1, (crossZ w p).2.2]) (aCons_of (S1 := S) rfl (aCons1 (fn2 (S1 := S) (S2 := S) (a := t3 w) (b := t3 p) rfl rfl e1))) (by simp) fun x y h => ⟨[some _, some _, some (.int x), some (.int y)], rfl, rfl⟩
  rw [plusZip] at e2
  refine ⟨_, ?_, .one S (.lst ([(plus3 v 1 (crossZ w p)).1, (plus3 v 1 (crossZ w p)).2.1, (plus3 v 1 (crossZ w p)).2.2].map D.int))⟩
  unfold fn_velocity_by body_velocity_by
  refine runDef_rt (ρ := [some (t6 v w), some (t3 p), none, none]) rfl ?_
  refine (skip (S1 := S) (tEqI (i := 6) (j := 3) rfl)).trans (sRet_of (call1 e2 ?_))
  simp only [gTupOf, asL, at_last]
  rfl
theorem velocity_ok : VelOk fn_velocity := by
  intro v w p S hv hw hp
  obtain ⟨S1, e1, g1⟩ := velocity_by_ok (v := v) (w := w) (p := p) S (hw.mono (by decide)) ((hp.bd (by decide)).mono (by decide))
  refine ⟨S1, ?_, g1⟩
  unfold fn_velocity body_velocity
  refine runDef_rt (ρ := [some (.int 6), some (t6 v w), some (t3 p)]) rfl ?_
  refine (sSeq_nx (sExpr_of (S1 := S) (fn3 (S1 := S) (S2 := S) (S3 := S) rfl (fn1 (S1 := S) rfl (need_space6 S)) rfl (need6 v w 0 S)))).trans ?_
  refine (sSeq_nx (sExpr_of (S1 := S) (fn3 (S1 := S) (S2 := S) (S3 := S) rfl rfl rfl (need_place6 hp (-1) S)))).trans ?_
  exact sRet_of (fn2 (S1 := S) (S2 := S) rfl rfl e1)
end Z

set_option Elab.async false
set_option linter.all false
set_option maxRecDepth 100000
set_option maxHeartbeats 4000000
namespace Z
open PySem L2 PySem.Spec PyProof.Rows
def top (i : Nat) : Stmt := PySem.Challenge.pw_bodybars_k21_whole_axes_and_pitches.main.body.getD i (.Pass ⟨0, 0, 0, 0⟩)
structure Tx (mg : Str → Option Value) : Prop where
  b_abs : mg "abs" = none
  b_all : mg "all" = none
  b_any : mg "any" = none
  b_bool : mg "bool" = none
  b_enumerate : mg "enumerate" = none
  b_int : mg "int" = none
  b_isinstance : mg "isinstance" = none
  b_len : mg "len" = none
  b_list : mg "list" = none
  b_range : mg "range" = none
  b_repr : mg "repr" = none
  b_sum : mg "sum" = none
  b_tuple : mg "tuple" = none
  b_type : mg "type" = none
  b_zip : mg "zip" = none
  i_gcd : mg "gcd" = some (.builtin "math.gcd")
  g_FARTHEST : ∃ t, mg "FARTHEST" = some (.int 1000000000 t)
section
variable [Tabs]
variable {P : Program} {wd : World} {K : PySem.W.Frag} {mg : Str → Option Value} {base : Heap} {CA : ClsAt}
abbrev s_is_whole : Stmt := top 8
abbrev N_is_whole : List Str := ["value", "least", "most"]
theorem sc_is_whole : FnScope N_is_whole ["value", "least", "most"] (defScope s_is_whole) := ⟨rfl, rfl, rfl, by decide +kernel, rfl, by decide +kernel, by decide +kernel⟩
abbrev P_is_whole : List Str := ["value", "least", "most"]
theorem ok_is_whole (T : Tx mg) {f : Addr} {fd : FuncData} (A : At K mg "is_whole" s_is_whole P_is_whole f fd) : FnG P wd K mg base (L2.CX P wd) 1 f fd P_is_whole (spF K CA 3 fn_is_whole) :=
  by rw [fn_is_whole_eq]; exact fn_okG (N := N_is_whole) (g := body_is_whole) A.F sc_is_whole (by decide) fun cdv Ar outer s H E hr hgd =>
  (ss_one (s_ret (se_and (se_tyIs T.b_type T.b_int boot_int' (se_var 0 (pv 0))) (se_one (se_chain cr_le cr_le (se_var 1 (pv 1)) (se_var 0 (pv 0)) (se_var 2 (pv 2)))))))
abbrev s_is_row : Stmt := top 9
abbrev N_is_row : List Str := ["value", "many"]
theorem sc_is_row : FnScope N_is_row ["value", "many"] (defScope s_is_row) := ⟨rfl, rfl, rfl, by decide +kernel, rfl, by decide +kernel, by decide +kernel⟩
abbrev P_is_row : List Str := ["value", "many"]
theorem ok_is_row (T : Tx mg) {f : Addr} {fd : FuncData} (A : At K mg "is_row" s_is_row P_is_row f fd) : FnG P wd K mg base (L2.CX P wd) 1 f fd P_is_row (spF K CA 2 fn_is_row) :=
  by rw [fn_is_row_eq]; exact fn_okG (N := N_is_row) (g := body_is_row) A.F sc_is_row (by decide) fun cdv Ar outer s H E hr hgd =>
  (ss_one (s_ret (se_and (se_tyIs T.b_type T.b_tuple boot_tuple' (se_var 0 (pv 0))) (se_one (se_cmp (cr_eqD (hu64 hr)) (se_len T.b_len (sa_cons (se_var 0 (pv 0)) sa_nil)) (se_var 1 (pv 1)) (nomark _))))))
abbrev s_are_integers : Stmt := top 10
abbrev N_are_integers : List Str := ["value", "many"]
theorem sc_are_integers : FnScope N_are_integers ["value", "many"] (defScope s_are_integers) := ⟨rfl, rfl, rfl, by decide +kernel, rfl, by decide +kernel, by decide +kernel⟩
abbrev P_are_integers : List Str := ["value", "many"]
theorem ok_are_integers (T : Tx mg) {f : Addr} {fd : FuncData} (A : At K mg "are_integers" s_are_integers P_are_integers f fd) {c P0 : Addr} (hfc : fd.code = .ref c) (TB : GxR.TabB base mg c P0) (hP : P0 ∈ Tabs.at_) {f_is_row : Addr} {d_is_row : FuncData} (A_is_row : At K mg "is_row" s_is_row P_is_row f_is_row d_is_row) (G_is_row : FnG P wd K mg base (L2.CX P wd) 1 f_is_row d_is_row P_is_row (spF K CA 2 fn_is_row)) : FnG P wd K mg base (L2.CX P wd) 2 f fd P_are_integers (spF K CA 2 fn_are_integers) :=
  by rw [fn_are_integers_eq]; exact fn_okGC (N := N_are_integers) (g := body_are_integers) A.F hfc sc_are_integers (by decide) fun Ar outer s H E hr hgd =>
  (ss_one (s_ret (se_and (se_fnG G_is_row (hr.mono (by decide)) hgd rfl A_is_row.m A_is_row.k A_is_row.b (takes_of rfl rfl rfl rfl) (sa_cons (se_var 0 (pv 0)) (sa_cons (se_var 1 (pv 1)) sa_nil))) (se_one (se_allG hP TB rfl hr T.b_all (genS_of rfl rfl (by decide +kernel) rfl rfl (by decide +kernel)) (se_var 0 (pv 0)) (fun ι S H d v b L rv h => elt_isInt rfl rfl rfl rfl T.b_type T.b_int (by decide) rfl ι S H d v b L rv h))))))
abbrev s_is_dimension : Stmt := top 12
abbrev N_is_dimension : List Str := ["value"]
theorem sc_is_dimension : FnScope N_is_dimension ["value"] (defScope s_is_dimension) := ⟨rfl, rfl, rfl, by decide +kernel, rfl, by decide +kernel, by decide +kernel⟩
abbrev P_is_dimension : List Str := ["value"]
theorem ok_is_dimension (T : Tx mg) {f : Addr} {fd : FuncData} (A : At K mg "is_dimension" s_is_dimension P_is_dimension f fd) : FnG P wd K mg base (L2.CX P wd) 1 f fd P_is_dimension (spF K CA 1 fn_is_dimension) :=
  by rw [fn_is_dimension_eq]; exact fn_okG (N := N_is_dimension) (g := body_is_dimension) A.F sc_is_dimension (by decide) fun cdv Ar outer s H E hr hgd =>
  (ss_one (s_ret (se_and (se_tyIs T.b_type T.b_int boot_int' (se_var 0 (pv 0))) (se_one (se_cmp (cr_in rfl) (se_var 0 (pv 0)) (se_tup (sa_cons se_int (sa_cons se_int (sa_cons se_int sa_nil)))) rfl)))))
abbrev s_need_dimension : Stmt := top 13
abbrev N_need_dimension : List Str := ["value"]
theorem sc_need_dimension : FnScope N_need_dimension ["value"] (defScope s_need_dimension) := ⟨rfl, rfl, rfl, by decide +kernel, rfl, by decide +kernel, by decide +kernel⟩
abbrev P_need_dimension : List Str := ["value"]
theorem ok_need_dimension (T : Tx mg) {f : Addr} {fd : FuncData} (A : At K mg "need_dimension" s_need_dimension P_need_dimension f fd) {f_is_dimension : Addr} {d_is_dimension : FuncData} (A_is_dimension : At K mg "is_dimension" s_is_dimension P_is_dimension f_is_dimension d_is_dimension) (G_is_dimension : FnG P wd K mg base (L2.CX P wd) 1 f_is_dimension d_is_dimension P_is_dimension (spF K CA 1 fn_is_dimension)) : FnG P wd K mg base (L2.CX P wd) 2 f fd P_need_dimension (spF K CA 1 fn_need_dimension) :=
  by rw [fn_need_dimension_eq]; exact fn_okG (N := N_need_dimension) (g := body_need_dimension) A.F sc_need_dimension (by decide) fun cdv Ar outer s H E hr hgd =>
  (ss_cons (s_if (st_not (st_val (se_fnG G_is_dimension (hr.mono (by decide)) hgd rfl A_is_dimension.m A_is_dimension.k A_is_dimension.b (takes_of rfl rfl rfl rfl) (sa_cons (se_var 0 (pv 0)) sa_nil))))
  (ss_one s_bad)
  ss_nil)
  (ss_one (s_ret (se_var 0 (pv 0)))))
abbrev s_need_space : Stmt := top 14
abbrev N_need_space : List Str := ["value"]
theorem sc_need_space : FnScope N_need_space ["value"] (defScope s_need_space) := ⟨rfl, rfl, rfl, by decide +kernel, rfl, by decide +kernel, by decide +kernel⟩
abbrev P_need_space : List Str := ["value"]
theorem ok_need_space (T : Tx mg) {f : Addr} {fd : FuncData} (A : At K mg "need_space" s_need_space P_need_space f fd) {f_need_dimension : Addr} {d_need_dimension : FuncData} (A_need_dimension : At K mg "need_dimension" s_need_dimension P_need_dimension f_need_dimension d_need_dimension) (G_need_dimension : FnG P wd K mg base (L2.CX P wd) 2 f_need_dimension d_need_dimension P_need_dimension (spF K CA 1 fn_need_dimension)) : FnG P wd K mg base (L2.CX P wd) 3 f fd P_need_space (spF K CA 1 fn_need_space) :=
  by rw [fn_need_space_eq]; exact fn_okG (N := N_need_space) (g := body_need_space) A.F sc_need_space (by decide) fun cdv Ar outer s H E hr hgd =>
  (ss_cons (s_if (st_cmp (cr_eqD (hu64 hr)) (se_fnG G_need_dimension (hr.mono (by decide)) hgd rfl A_need_dimension.m A_need_dimension.k A_need_dimension.b (takes_of rfl rfl rfl rfl) (sa_cons (se_var 0 (pv 0)) sa_nil)) se_int (nomark _))
  (ss_one s_bad)
  ss_nil)
  (ss_one (s_ret (se_var 0 (pv 0)))))
abbrev s_place_width : Stmt := top 17
abbrev N_place_width : List Str := ["dimension"]
theorem sc_place_width : FnScope N_place_width ["dimension"] (defScope s_place_width) := ⟨rfl, rfl, rfl, by decide +kernel, rfl, by decide +kernel, by decide +kernel⟩
abbrev P_place_width : List Str := ["dimension"]
theorem ok_place_width (T : Tx mg) {f : Addr} {fd : FuncData} (A : At K mg "place_width" s_place_width P_place_width f fd) : FnG P wd K mg base (L2.CX P wd) 1 f fd P_place_width (spF K CA 1 fn_place_width) :=
  by rw [fn_place_width_eq]; exact fn_okG (N := N_place_width) (g := body_place_width) A.F sc_place_width (by decide) fun cdv Ar outer s H E hr hgd =>
  (ss_one (s_ret (se_if (st_cmp (cr_eqD (hu64 hr)) (se_var 0 (pv 0)) se_int (nomark _)) se_int se_int)))
abbrev s_is_place : Stmt := top 18
abbrev N_is_place : List Str := ["width", "value"]
theorem sc_is_place : FnScope N_is_place ["width", "value"] (defScope s_is_place) := ⟨rfl, rfl, rfl, by decide +kernel, rfl, by decide +kernel, by decide +kernel⟩
abbrev P_is_place : List Str := ["width", "value"]
theorem ok_is_place (T : Tx mg) {f : Addr} {fd : FuncData} (A : At K mg "is_place" s_is_place P_is_place f fd) {c P0 : Addr} (hfc : fd.code = .ref c) (TB : GxR.TabB base mg c P0) (hP : P0 ∈ Tabs.at_) {f_is_row : Addr} {d_is_row : FuncData} (A_is_row : At K mg "is_row" s_is_row P_is_row f_is_row d_is_row) (G_is_row : FnG P wd K mg base (L2.CX P wd) 1 f_is_row d_is_row P_is_row (spF K CA 2 fn_is_row)) {f_is_whole : Addr} {d_is_whole : FuncData} (A_is_whole : At K mg "is_whole" s_is_whole P_is_whole f_is_whole d_is_whole) (G_is_whole : FnG P wd K mg base (L2.CX P wd) 1 f_is_whole d_is_whole P_is_whole (spF K CA 3 fn_is_whole)) : FnG P wd K mg base (L2.CX P wd) 2 f fd P_is_place (spF K CA 2 fn_is_place) :=
  by rw [fn_is_place_eq]; exact fn_okGC (N := N_is_place) (g := body_is_place) A.F hfc sc_is_place (by decide) fun Ar outer s H E hr hgd =>
  (ss_cons (s_if (st_not (st_val (se_fnG G_is_row (hr.mono (by decide)) hgd rfl A_is_row.m A_is_row.k A_is_row.b (takes_of rfl rfl rfl rfl) (sa_cons (se_var 1 (pv 1)) (sa_cons (se_var 0 (pv 0)) sa_nil)))))
  (ss_one (s_ret se_bl))
  ss_nil)
  (ss_one (s_ret (se_allG hP TB rfl hr T.b_all (genS_of rfl rfl (by decide +kernel) rfl rfl (by decide +kernel)) (se_var 1 (pv 1)) (fun ι S H d v b L rv h => elt_whole A_is_whole sc_is_whole rfl T.g_FARTHEST (dp1 hr) rfl rfl rfl rfl rfl rfl rfl (by decide) (by decide) (by decide) rfl rfl T.b_type T.b_int (by decide) (by decide) (by decide) (by decide) (by decide) (by decide) rfl ι S H d v b L rv h)))))
abbrev s_dot : Stmt := top 20
abbrev N_dot : List Str := ["one", "other", "number", "onto"]
theorem sc_dot : FnScope N_dot ["one", "other"] (defScope s_dot) := ⟨rfl, rfl, rfl, by decide +kernel, rfl, by decide +kernel, by decide +kernel⟩
abbrev P_dot : List Str := ["one", "other"]
theorem ok_dot (T : Tx mg) {f : Addr} {fd : FuncData} (A : At K mg "dot" s_dot P_dot f fd) : FnG P wd K mg base (L2.CX P wd) 1 f fd P_dot (spF K CA 2 fn_dot) :=
  by rw [fn_dot_eq]; exact fn_okG (N := N_dot) (g := body_dot) A.F sc_dot (by decide) fun cdv Ar outer s H E hr hgd =>
  (ss_one (s_ret (se_sum rfl T.b_sum (sa_cons (se_lc (own := [("number", 2), ("onto", 3)]) rfl sc_dot.nd (si_zipT T.b_zip (sa_cons (se_var 0 (pv 0)) (sa_cons (se_var 1 (pv 1)) sa_nil))) (blkOk_by (own := [("number", 2), ("onto", 3)]) (N := N_dot) (sc := defScope s_dot) (by decide +kernel)) (fun _ _ _ _ _ => (pg_tup (n := 2) rfl (pgs_cons (pg_name (i := 2) sc_dot.nd rfl (by first | exact Or.inl rfl | exact Or.inr rfl) (by first | exact Or.inl rfl | exact Or.inr rfl)) (pgs_cons (pg_name (i := 3) sc_dot.nd rfl (by first | exact Or.inl rfl | exact Or.inr rfl) (by first | exact Or.inl rfl | exact Or.inr rfl)) pgs_nil)))) (gx_tup (gxs_cons (gx_name _ 2 (by decide)) (gxs_cons (gx_name _ 3 (by decide)) (gxs_nil _)))) (fun _ _ _ _ _ => sts_nil) (fun _ _ _ _ _ => (se_mul (se_var 2 (pv 2)) (se_var 3 (pv 3))))) sa_nil))))
abbrev s_content : Stmt := top 21
abbrev N_content : List Str := ["row", "common", "number"]
theorem sc_content : FnScope N_content ["row"] (defScope s_content) := ⟨rfl, rfl, rfl, by decide +kernel, rfl, by decide +kernel, by decide +kernel⟩
abbrev P_content : List Str := ["row"]
theorem ok_content (T : Tx mg) {f : Addr} {fd : FuncData} (A : At K mg "content" s_content P_content f fd) : FnG P wd K mg base (L2.CX P wd) 1 f fd P_content (spF K CA 1 fn_content) :=
  by rw [fn_content_eq]; exact fn_okG (N := N_content) (g := body_content) A.F sc_content (by decide) fun cdv Ar outer s H E hr hgd =>
  (ss_cons (s_set 1 sc_content.nd rfl (by first | exact Or.inl rfl | exact Or.inr rfl) se_int)
  (ss_cons (s_for PassesOwn.leaving rfl (si_seq (se_var 0 (pv 0))) (sg_name 2 (pg_name (i := 2) sc_content.nd rfl (by first | exact Or.inl rfl | exact Or.inr rfl) (by first | exact Or.inl rfl | exact Or.inr rfl)))
  (ss_cons (s_set 1 sc_content.nd rfl (by first | exact Or.inl rfl | exact Or.inr rfl) (se_gcd T.i_gcd (sa_cons (se_var 1 (pv 1)) (sa_cons (se_var 2 (pv 2)) sa_nil))))
  (ss_one (s_if (st_cmp (cr_eqD (hu64 hr)) (se_var 1 (pv 1)) se_int (nomark _))
  (ss_one s_break)
  ss_nil))))
  (ss_one (s_ret (se_var 1 (pv 1))))))
abbrev s_need_place_at : Stmt := top 23
abbrev N_need_place_at : List Str := ["dimension", "place", "index"]
theorem sc_need_place_at : FnScope N_need_place_at ["dimension", "place", "index"] (defScope s_need_place_at) := ⟨rfl, rfl, rfl, by decide +kernel, rfl, by decide +kernel, by decide +kernel⟩
abbrev P_need_place_at : List Str := ["dimension", "place", "index"]
theorem ok_need_place_at (T : Tx mg) {f : Addr} {fd : FuncData} (A : At K mg "need_place_at" s_need_place_at P_need_place_at f fd) {f_is_place : Addr} {d_is_place : FuncData} (A_is_place : At K mg "is_place" s_is_place P_is_place f_is_place d_is_place) (G_is_place : FnG P wd K mg base (L2.CX P wd) 2 f_is_place d_is_place P_is_place (spF K CA 2 fn_is_place)) {f_place_width : Addr} {d_place_width : FuncData} (A_place_width : At K mg "place_width" s_place_width P_place_width f_place_width d_place_width) (G_place_width : FnG P wd K mg base (L2.CX P wd) 1 f_place_width d_place_width P_place_width (spF K CA 1 fn_place_width)) {fI_BadPlace : Addr} {dI_BadPlace : FuncData} (E_BadPlace : ErrC P wd K mg base CA "BadPlace" fI_BadPlace dI_BadPlace ["self", "index"] fun C => spI1 C "index") (N_BadPlace_index : PySem.W.findIn K (.ref (CA "BadPlace")) "index" = some none) : FnG P wd K mg base (L2.CX P wd) 3 f fd P_need_place_at (spF K CA 3 fn_need_place_at) :=
  by rw [fn_need_place_at_eq]; exact fn_okG (N := N_need_place_at) (g := body_need_place_at) A.F sc_need_place_at (by decide) fun cdv Ar outer s H E hr hgd =>
  (ss_cons (s_if (st_not (st_val (se_fnG G_is_place (hr.mono (by decide)) hgd rfl A_is_place.m A_is_place.k A_is_place.b (takes_of rfl rfl rfl rfl) (sa_cons (se_fnG G_place_width (hr.mono (by decide)) hgd rfl A_place_width.m A_place_width.k A_place_width.b (takes_of rfl rfl rfl rfl) (sa_cons (se_var 0 (pv 0)) sa_nil)) (sa_cons (se_var 1 (pv 1)) sa_nil)))))
  (ss_one (s_raise1 (k := 0) E_BadPlace rfl (takes_of rfl rfl rfl rfl) (hr.mono (by decide)) (sa_cons (se_var 2 (pv 2)) sa_nil)))
  ss_nil)
  (ss_one (s_ret (se_var 1 (pv 1)))))
abbrev s_cross : Stmt := top 24
abbrev N_cross : List Str := ["one", "other", "x", "y", "z", "u", "v", "w"]
theorem sc_cross : FnScope N_cross ["one", "other"] (defScope s_cross) := ⟨rfl, rfl, rfl, by decide +kernel, rfl, by decide +kernel, by decide +kernel⟩
abbrev P_cross : List Str := ["one", "other"]
theorem ok_cross (T : Tx mg) {f : Addr} {fd : FuncData} (A : At K mg "cross" s_cross P_cross f fd) : FnG P wd K mg base (L2.CX P wd) 1 f fd P_cross (spF K CA 2 fn_cross) :=
  by rw [fn_cross_eq]; exact fn_okG (N := N_cross) (g := body_cross) A.F sc_cross (by decide) fun cdv Ar outer s H E hr hgd =>
  (ss_cons (s_asg (se_tup (sa_cons (se_var 0 (pv 0)) (sa_cons (se_var 1 (pv 1)) sa_nil))) (sg_tup (n := 2) rfl (sgs_cons (sg_tup (n := 3) rfl (sgs_cons (sg_name 2 (pg_name (i := 2) sc_cross.nd rfl (by first | exact Or.inl rfl | exact Or.inr rfl) (by first | exact Or.inl rfl | exact Or.inr rfl))) (sgs_cons (sg_name 3 (pg_name (i := 3) sc_cross.nd rfl (by first | exact Or.inl rfl | exact Or.inr rfl) (by first | exact Or.inl rfl | exact Or.inr rfl))) (sgs_cons (sg_name 4 (pg_name (i := 4) sc_cross.nd rfl (by first | exact Or.inl rfl | exact Or.inr rfl) (by first | exact Or.inl rfl | exact Or.inr rfl))) sgs_nil)))) (sgs_cons (sg_tup (n := 3) rfl (sgs_cons (sg_name 5 (pg_name (i := 5) sc_cross.nd rfl (by first | exact Or.inl rfl | exact Or.inr rfl) (by first | exact Or.inl rfl | exact Or.inr rfl))) (sgs_cons (sg_name 6 (pg_name (i := 6) sc_cross.nd rfl (by first | exact Or.inl rfl | exact Or.inr rfl) (by first | exact Or.inl rfl | exact Or.inr rfl))) (sgs_cons (sg_name 7 (pg_name (i := 7) sc_cross.nd rfl (by first | exact Or.inl rfl | exact Or.inr rfl) (by first | exact Or.inl rfl | exact Or.inr rfl))) sgs_nil)))) sgs_nil))))
  (ss_one (s_ret (se_tup (sa_cons (se_sub (se_mul (se_var 3 (pv 3)) (se_var 7 (pv 7))) (se_mul (se_var 4 (pv 4)) (se_var 6 (pv 6)))) (sa_cons (se_sub (se_mul (se_var 4 (pv 4)) (se_var 5 (pv 5))) (se_mul (se_var 2 (pv 2)) (se_var 7 (pv 7)))) (sa_cons (se_sub (se_mul (se_var 2 (pv 2)) (se_var 6 (pv 6))) (se_mul (se_var 3 (pv 3)) (se_var 5 (pv 5)))) sa_nil)))))))
abbrev s_lowest : Stmt := top 25
abbrev N_lowest : List Str := ["count", "numbers", "common", "number"]
theorem sc_lowest : FnScope N_lowest ["count", "numbers"] (defScope s_lowest) := ⟨rfl, rfl, rfl, by decide +kernel, rfl, by decide +kernel, by decide +kernel⟩
abbrev P_lowest : List Str := ["count", "numbers"]
theorem ok_lowest (T : Tx mg) {f : Addr} {fd : FuncData} (A : At K mg "lowest" s_lowest P_lowest f fd) {f_content : Addr} {d_content : FuncData} (A_content : At K mg "content" s_content P_content f_content d_content) (G_content : FnG P wd K mg base (L2.CX P wd) 1 f_content d_content P_content (spF K CA 1 fn_content)) : FnG P wd K mg base (L2.CX P wd) 2 f fd P_lowest (spF K CA 2 fn_lowest) :=
  by rw [fn_lowest_eq]; exact fn_okG (N := N_lowest) (g := body_lowest) A.F sc_lowest (by decide) fun cdv Ar outer s H E hr hgd =>
  (ss_cons (s_set 2 sc_lowest.nd rfl (by first | exact Or.inl rfl | exact Or.inr rfl) (se_fnG G_content (hr.mono (by decide)) hgd rfl A_content.m A_content.k A_content.b (takes_of rfl rfl rfl rfl) (sa_cons (se_lst (sa_cons (se_var 0 (pv 0)) (sa_star (se_var 1 (pv 1)) sa_nil))) sa_nil)))
  (ss_cons (s_if (st_cmp cr_lt (se_var 0 (pv 0)) se_int (nomark _))
  (ss_one (s_set 2 sc_lowest.nd rfl (by first | exact Or.inl rfl | exact Or.inr rfl) (se_neg (se_var 2 (pv 2)))))
  ss_nil)
  (ss_one (s_ret (se_tup (sa_cons (se_div (se_var 0 (pv 0)) (se_var 2 (pv 2))) (sa_cons (se_tuple T.b_tuple (sa_cons (se_lc (own := [("number", 3)]) rfl sc_lowest.nd (si_seq (se_var 1 (pv 1))) (blkOk_by (own := [("number", 3)]) (N := N_lowest) (sc := defScope s_lowest) (by decide +kernel)) (fun _ _ _ _ _ => (pg_name (i := 3) sc_lowest.nd rfl (by first | exact Or.inl rfl | exact Or.inr rfl) (by first | exact Or.inl rfl | exact Or.inr rfl))) (gx_name _ 3 (by decide)) (fun _ _ _ _ _ => sts_nil) (fun _ _ _ _ _ => (se_div (se_var 3 (pv 3)) (se_var 2 (pv 2))))) sa_nil)) sa_nil)))))))
abbrev s_need_row : Stmt := top 27
abbrev N_need_row : List Str := ["row", "many", "index"]
theorem sc_need_row : FnScope N_need_row ["row", "many", "index"] (defScope s_need_row) := ⟨rfl, rfl, rfl, by decide +kernel, rfl, by decide +kernel, by decide +kernel⟩
abbrev P_need_row : List Str := ["row", "many", "index"]
theorem ok_need_row (T : Tx mg) {f : Addr} {fd : FuncData} (A : At K mg "need_row" s_need_row P_need_row f fd) {f_are_integers : Addr} {d_are_integers : FuncData} (A_are_integers : At K mg "are_integers" s_are_integers P_are_integers f_are_integers d_are_integers) (G_are_integers : FnG P wd K mg base (L2.CX P wd) 2 f_are_integers d_are_integers P_are_integers (spF K CA 2 fn_are_integers)) {fI_BadRow : Addr} {dI_BadRow : FuncData} (E_BadRow : ErrC P wd K mg base CA "BadRow" fI_BadRow dI_BadRow ["self", "index"] fun C => spI1 C "index") (N_BadRow_index : PySem.W.findIn K (.ref (CA "BadRow")) "index" = some none) : FnG P wd K mg base (L2.CX P wd) 3 f fd P_need_row (spF K CA 3 fn_need_row) :=
  by rw [fn_need_row_eq]; exact fn_okG (N := N_need_row) (g := body_need_row) A.F sc_need_row (by decide) fun cdv Ar outer s H E hr hgd =>
  (ss_cons (s_if (st_not (st_val (se_fnG G_are_integers (hr.mono (by decide)) hgd rfl A_are_integers.m A_are_integers.k A_are_integers.b (takes_of rfl rfl rfl rfl) (sa_cons (se_var 0 (pv 0)) (sa_cons (se_var 1 (pv 1)) sa_nil)))))
  (ss_one (s_raise1 (k := 0) E_BadRow rfl (takes_of rfl rfl rfl rfl) (hr.mono (by decide)) (sa_cons (se_var 2 (pv 2)) sa_nil)))
  ss_nil)
  (ss_one (s_ret (se_var 0 (pv 0)))))
abbrev s_velocity_by : Stmt := top 29
abbrev N_velocity_by : List Str := ["motion", "place", "number", "more"]
theorem sc_velocity_by : FnScope N_velocity_by ["motion", "place"] (defScope s_velocity_by) := ⟨rfl, rfl, rfl, by decide +kernel, rfl, by decide +kernel, by decide +kernel⟩
abbrev P_velocity_by : List Str := ["motion", "place"]
theorem ok_velocity_by (T : Tx mg) {f : Addr} {fd : FuncData} (A : At K mg "velocity_by" s_velocity_by P_velocity_by f fd) {f_cross : Addr} {d_cross : FuncData} (A_cross : At K mg "cross" s_cross P_cross f_cross d_cross) (G_cross : FnG P wd K mg base (L2.CX P wd) 1 f_cross d_cross P_cross (spF K CA 2 fn_cross)) : FnG P wd K mg base (L2.CX P wd) 2 f fd P_velocity_by (spF K CA 2 fn_velocity_by) :=
  by rw [fn_velocity_by_eq]; exact fn_okG (N := N_velocity_by) (g := body_velocity_by) A.F sc_velocity_by (by decide) fun cdv Ar outer s H E hr hgd =>
  (ss_cons (s_if (st_cmp (cr_eqD (hu64 hr)) (se_len T.b_len (sa_cons (se_var 0 (pv 0)) sa_nil)) se_int (nomark _))
  (ss_one (s_ret (se_tup (sa_cons (se_sub (se_ix (se_var 0 (pv 0)) se_int) (se_mul (se_ix (se_var 0 (pv 0)) se_int) (se_ix (se_var 1 (pv 1)) se_int))) (sa_cons (se_add (se_ix (se_var 0 (pv 0)) se_int) (se_mul (se_ix (se_var 0 (pv 0)) se_int) (se_ix (se_var 1 (pv 1)) se_int))) sa_nil)))))
  ss_nil)
  (ss_one (s_ret (se_tuple T.b_tuple (sa_cons (se_lc (own := [("number", 2), ("more", 3)]) rfl sc_velocity_by.nd (si_zipT T.b_zip (sa_cons (se_sl (se_var 0 (pv 0)) sp_none (sp_some se_int)) (sa_cons (se_fnG G_cross (hr.mono (by decide)) hgd rfl A_cross.m A_cross.k A_cross.b (takes_of rfl rfl rfl rfl) (sa_cons (se_sl (se_var 0 (pv 0)) (sp_some se_int) sp_none) (sa_cons (se_var 1 (pv 1)) sa_nil))) sa_nil))) (blkOk_by (own := [("number", 2), ("more", 3)]) (N := N_velocity_by) (sc := defScope s_velocity_by) (by decide +kernel)) (fun _ _ _ _ _ => (pg_tup (n := 2) rfl (pgs_cons (pg_name (i := 2) sc_velocity_by.nd rfl (by first | exact Or.inl rfl | exact Or.inr rfl) (by first | exact Or.inl rfl | exact Or.inr rfl)) (pgs_cons (pg_name (i := 3) sc_velocity_by.nd rfl (by first | exact Or.inl rfl | exact Or.inr rfl) (by first | exact Or.inl rfl | exact Or.inr rfl)) pgs_nil)))) (gx_tup (gxs_cons (gx_name _ 2 (by decide)) (gxs_cons (gx_name _ 3 (by decide)) (gxs_nil _)))) (fun _ _ _ _ _ => sts_nil) (fun _ _ _ _ _ => (se_add (se_var 2 (pv 2)) (se_var 3 (pv 3))))) sa_nil)))))
abbrev s_axis : Stmt := top 30
abbrev N_axis : List Str := ["motion", "turning", "count", "numbers", "common", "number"]
theorem sc_axis : FnScope N_axis ["motion"] (defScope s_axis) := ⟨rfl, rfl, rfl, by decide +kernel, rfl, by decide +kernel, by decide +kernel⟩
abbrev P_axis : List Str := ["motion"]
theorem ok_axis (T : Tx mg) {f : Addr} {fd : FuncData} (A : At K mg "axis" s_axis P_axis f fd) {f_need_row : Addr} {d_need_row : FuncData} (A_need_row : At K mg "need_row" s_need_row P_need_row f_need_row d_need_row) (G_need_row : FnG P wd K mg base (L2.CX P wd) 3 f_need_row d_need_row P_need_row (spF K CA 3 fn_need_row)) {f_lowest : Addr} {d_lowest : FuncData} (A_lowest : At K mg "lowest" s_lowest P_lowest f_lowest d_lowest) (G_lowest : FnG P wd K mg base (L2.CX P wd) 2 f_lowest d_lowest P_lowest (spF K CA 2 fn_lowest)) {f_cross : Addr} {d_cross : FuncData} (A_cross : At K mg "cross" s_cross P_cross f_cross d_cross) (G_cross : FnG P wd K mg base (L2.CX P wd) 1 f_cross d_cross P_cross (spF K CA 2 fn_cross)) {f_dot : Addr} {d_dot : FuncData} (A_dot : At K mg "dot" s_dot P_dot f_dot d_dot) (G_dot : FnG P wd K mg base (L2.CX P wd) 1 f_dot d_dot P_dot (spF K CA 2 fn_dot)) {f_content : Addr} {d_content : FuncData} (A_content : At K mg "content" s_content P_content f_content d_content) (G_content : FnG P wd K mg base (L2.CX P wd) 1 f_content d_content P_content (spF K CA 1 fn_content)) : FnG P wd K mg base (L2.CX P wd) 4 f fd P_axis (spF K CA 1 fn_axis) :=
  by rw [fn_axis_eq]; exact fn_okG (N := N_axis) (g := body_axis) A.F sc_axis (by decide) fun cdv Ar outer s H E hr hgd =>
  (ss_cons (s_expr (se_fnG G_need_row (hr.mono (by decide)) hgd rfl A_need_row.m A_need_row.k A_need_row.b (takes_of rfl rfl rfl rfl) (sa_cons (se_var 0 (pv 0)) (sa_cons se_int (sa_cons se_int sa_nil)))))
  (ss_cons (s_set 1 sc_axis.nd rfl (by first | exact Or.inl rfl | exact Or.inr rfl) (se_sl (se_var 0 (pv 0)) (sp_some se_int) sp_none))
  (ss_cons (s_if (st_not (st_val (se_anyT rfl T.b_any (sa_cons (se_var 1 (pv 1)) sa_nil))))
  (ss_one (s_ret se_non))
  ss_nil)
  (ss_cons (s_asg (se_fnG G_lowest (hr.mono (by decide)) hgd rfl A_lowest.m A_lowest.k A_lowest.b (takes_of rfl rfl rfl rfl) (sa_cons (se_fnG G_dot (hr.mono (by decide)) hgd rfl A_dot.m A_dot.k A_dot.b (takes_of rfl rfl rfl rfl) (sa_cons (se_var 1 (pv 1)) (sa_cons (se_var 1 (pv 1)) sa_nil))) (sa_cons (se_fnG G_cross (hr.mono (by decide)) hgd rfl A_cross.m A_cross.k A_cross.b (takes_of rfl rfl rfl rfl) (sa_cons (se_var 1 (pv 1)) (sa_cons (se_sl (se_var 0 (pv 0)) sp_none (sp_some se_int)) sa_nil))) sa_nil))) (sg_tup (n := 2) rfl (sgs_cons (sg_name 2 (pg_name (i := 2) sc_axis.nd rfl (by first | exact Or.inl rfl | exact Or.inr rfl) (by first | exact Or.inl rfl | exact Or.inr rfl))) (sgs_cons (sg_name 3 (pg_name (i := 3) sc_axis.nd rfl (by first | exact Or.inl rfl | exact Or.inr rfl) (by first | exact Or.inl rfl | exact Or.inr rfl))) sgs_nil))))
  (ss_cons (s_set 4 sc_axis.nd rfl (by first | exact Or.inl rfl | exact Or.inr rfl) (se_fnG G_content (hr.mono (by decide)) hgd rfl A_content.m A_content.k A_content.b (takes_of rfl rfl rfl rfl) (sa_cons (se_var 1 (pv 1)) sa_nil)))
  (ss_one (s_ret (se_tup (sa_cons (se_var 2 (pv 2)) (sa_cons (se_var 3 (pv 3)) (sa_cons (se_tuple T.b_tuple (sa_cons (se_lc (own := [("number", 5)]) rfl sc_axis.nd (si_seq (se_var 1 (pv 1))) (blkOk_by (own := [("number", 5)]) (N := N_axis) (sc := defScope s_axis) (by decide +kernel)) (fun _ _ _ _ _ => (pg_name (i := 5) sc_axis.nd rfl (by first | exact Or.inl rfl | exact Or.inr rfl) (by first | exact Or.inl rfl | exact Or.inr rfl))) (gx_name _ 5 (by decide)) (fun _ _ _ _ _ => sts_nil) (fun _ _ _ _ _ => (se_div (se_var 5 (pv 5)) (se_var 4 (pv 4))))) sa_nil)) sa_nil)))))))))))
abbrev s_pitch : Stmt := top 31
abbrev N_pitch : List Str := ["motion", "turning", "count", "numerator"]
theorem sc_pitch : FnScope N_pitch ["motion"] (defScope s_pitch) := ⟨rfl, rfl, rfl, by decide +kernel, rfl, by decide +kernel, by decide +kernel⟩
abbrev P_pitch : List Str := ["motion"]
theorem ok_pitch (T : Tx mg) {f : Addr} {fd : FuncData} (A : At K mg "pitch" s_pitch P_pitch f fd) {f_need_row : Addr} {d_need_row : FuncData} (A_need_row : At K mg "need_row" s_need_row P_need_row f_need_row d_need_row) (G_need_row : FnG P wd K mg base (L2.CX P wd) 3 f_need_row d_need_row P_need_row (spF K CA 3 fn_need_row)) {f_lowest : Addr} {d_lowest : FuncData} (A_lowest : At K mg "lowest" s_lowest P_lowest f_lowest d_lowest) (G_lowest : FnG P wd K mg base (L2.CX P wd) 2 f_lowest d_lowest P_lowest (spF K CA 2 fn_lowest)) {f_dot : Addr} {d_dot : FuncData} (A_dot : At K mg "dot" s_dot P_dot f_dot d_dot) (G_dot : FnG P wd K mg base (L2.CX P wd) 1 f_dot d_dot P_dot (spF K CA 2 fn_dot)) : FnG P wd K mg base (L2.CX P wd) 4 f fd P_pitch (spF K CA 1 fn_pitch) :=
  by rw [fn_pitch_eq]; exact fn_okG (N := N_pitch) (g := body_pitch) A.F sc_pitch (by decide) fun cdv Ar outer s H E hr hgd =>
  (ss_cons (s_expr (se_fnG G_need_row (hr.mono (by decide)) hgd rfl A_need_row.m A_need_row.k A_need_row.b (takes_of rfl rfl rfl rfl) (sa_cons (se_var 0 (pv 0)) (sa_cons se_int (sa_cons se_int sa_nil)))))
  (ss_cons (s_set 1 sc_pitch.nd rfl (by first | exact Or.inl rfl | exact Or.inr rfl) (se_sl (se_var 0 (pv 0)) (sp_some se_int) sp_none))
  (ss_cons (s_if (st_not (st_val (se_anyT rfl T.b_any (sa_cons (se_var 1 (pv 1)) sa_nil))))
  (ss_one (s_ret se_non))
  ss_nil)
  (ss_cons (s_asg (se_fnG G_lowest (hr.mono (by decide)) hgd rfl A_lowest.m A_lowest.k A_lowest.b (takes_of rfl rfl rfl rfl) (sa_cons (se_fnG G_dot (hr.mono (by decide)) hgd rfl A_dot.m A_dot.k A_dot.b (takes_of rfl rfl rfl rfl) (sa_cons (se_var 1 (pv 1)) (sa_cons (se_var 1 (pv 1)) sa_nil))) (sa_cons (se_tup (sa_cons (se_fnG G_dot (hr.mono (by decide)) hgd rfl A_dot.m A_dot.k A_dot.b (takes_of rfl rfl rfl rfl) (sa_cons (se_sl (se_var 0 (pv 0)) sp_none (sp_some se_int)) (sa_cons (se_var 1 (pv 1)) sa_nil))) sa_nil)) sa_nil))) (sg_tup (n := 2) rfl (sgs_cons (sg_name 2 (pg_name (i := 2) sc_pitch.nd rfl (by first | exact Or.inl rfl | exact Or.inr rfl) (by first | exact Or.inl rfl | exact Or.inr rfl))) (sgs_cons (sg_tup (n := 1) rfl (sgs_cons (sg_name 3 (pg_name (i := 3) sc_pitch.nd rfl (by first | exact Or.inl rfl | exact Or.inr rfl) (by first | exact Or.inl rfl | exact Or.inr rfl))) sgs_nil)) sgs_nil))))
  (ss_one (s_ret (se_tup (sa_cons (se_var 3 (pv 3)) (sa_cons (se_var 2 (pv 2)) sa_nil)))))))))
abbrev s__law_mixed : Stmt := top 33
abbrev N__law_mixed : List Str := ["cell", "n", "blend"]
theorem sc__law_mixed : FnScope N__law_mixed ["cell", "n"] (defScope s__law_mixed) := ⟨rfl, rfl, rfl, by decide +kernel, rfl, by decide +kernel, by decide +kernel⟩
abbrev P__law_mixed : List Str := ["cell", "n"]
theorem ok__law_mixed (T : Tx mg) {f : Addr} {fd : FuncData} (A : At K mg "_law_mixed" s__law_mixed P__law_mixed f fd) : FnG P wd K mg base (L2.CX P wd) 1 f fd P__law_mixed (spF K CA 2 fn__law_mixed) :=
  by rw [fn__law_mixed_eq]; exact fn_okG (N := N__law_mixed) (g := body__law_mixed) A.F sc__law_mixed (by decide) fun cdv Ar outer s H E hr hgd =>
  (ss_cons (s_set 2 sc__law_mixed.nd rfl (by first | exact Or.inl rfl | exact Or.inr rfl) (se_add (se_add (se_mod (se_int1 T.b_int (sa_cons (se_mul (se_mul (se_var 0 (pv 0)) (se_add se_int (se_mul se_int (se_var 1 (pv 1))))) se_int) sa_nil)) se_int) (se_mul (se_mul se_int (se_var 1 (pv 1))) (se_var 1 (pv 1)))) (se_mul se_int (se_var 1 (pv 1)))))
  (ss_one (s_ret (se_div (se_mod (se_int1 T.b_int (sa_cons (se_mul (se_var 2 (pv 2)) se_int) sa_nil)) se_int) se_int))))
abbrev s__law_folded : Stmt := top 34
abbrev N__law_folded : List Str := ["script", "found", "n", "cell"]
theorem sc__law_folded : FnScope N__law_folded ["script"] (defScope s__law_folded) := ⟨rfl, rfl, rfl, by decide +kernel, rfl, by decide +kernel, by decide +kernel⟩
abbrev P__law_folded : List Str := ["script"]
theorem ok__law_folded (T : Tx mg) {f : Addr} {fd : FuncData} (A : At K mg "_law_folded" s__law_folded P__law_folded f fd) : FnG P wd K mg base (L2.CX P wd) 1 f fd P__law_folded (spF K CA 1 fn__law_folded) :=
  by rw [fn__law_folded_eq]; exact fn_okG (N := N__law_folded) (g := body__law_folded) A.F sc__law_folded (by decide) fun cdv Ar outer s H E hr hgd =>
  (ss_cons (s_setLc (i := 1) (own := [("n", 2)]) rfl sc__law_folded.nd rfl rfl (sw_true rfl rfl rfl (by decide +kernel)) (si_r1 T.b_range (sa_cons se_int sa_nil)) (blkOk_by (own := [("n", 2)]) (N := N__law_folded) (sc := defScope s__law_folded) (by decide +kernel)) (fun _ _ _ _ _ => (pg_name (i := 2) sc__law_folded.nd rfl (by first | exact Or.inl rfl | exact Or.inr rfl) (by first | exact Or.inl rfl | exact Or.inr rfl))) (gx_name _ 2 (by decide)) (fun _ _ _ _ _ => sts_nil) (fun _ _ _ _ _ => (se_add se_int (se_var 2 (pv 2)))))
  (ss_cons (s_for PassesOwn.leaving rfl (si_enum T.b_enumerate (sa_cons (se_var 0 (pv 0)) sa_nil)) (sg_tup (n := 2) rfl (sgs_cons (sg_name 2 (pg_name (i := 2) sc__law_folded.nd rfl (by first | exact Or.inl rfl | exact Or.inr rfl) (by first | exact Or.inl rfl | exact Or.inr rfl))) (sgs_cons (sg_name 3 (pg_name (i := 3) sc__law_folded.nd rfl (by first | exact Or.inl rfl | exact Or.inr rfl) (by first | exact Or.inl rfl | exact Or.inr rfl))) sgs_nil)))
  (ss_one (s_put (se_mod (se_int1 T.b_int (sa_cons (se_add (se_mul (se_ix (se_var 1 (pv 1)) (se_mod (se_int1 T.b_int (sa_cons (se_var 2 (pv 2)) sa_nil)) se_int)) se_int) (se_var 3 (pv 3))) sa_nil)) se_int) (se_var 1 (pv 1)) (se_mod (se_int1 T.b_int (sa_cons (se_var 2 (pv 2)) sa_nil)) se_int))))
  (ss_cons (s_for PassesOwn.leaving rfl (si_r2 T.b_range (sa_cons se_int (sa_cons se_int sa_nil))) (sg_name 2 (pg_name (i := 2) sc__law_folded.nd rfl (by first | exact Or.inl rfl | exact Or.inr rfl) (by first | exact Or.inl rfl | exact Or.inr rfl)))
  (ss_one (s_put (se_mod (se_int1 T.b_int (sa_cons (se_add (se_ix (se_var 1 (pv 1)) (se_var 2 (pv 2))) (se_mul (se_ix (se_var 1 (pv 1)) (se_sub (se_var 2 (pv 2)) se_int)) se_int)) sa_nil)) se_int) (se_var 1 (pv 1)) (se_var 2 (pv 2)))))
  (ss_one (s_ret (se_var 1 (pv 1)))))))
abbrev s__law_draw : Stmt := top 35
abbrev N__law_draw : List Str := ["m", "limit", "n", "lot", "here", "cell"]
theorem sc__law_draw : FnScope N__law_draw ["m", "limit"] (defScope s__law_draw) := ⟨rfl, rfl, rfl, by decide +kernel, rfl, by decide +kernel, by decide +kernel⟩
abbrev P__law_draw : List Str := ["m", "limit"]
theorem ok__law_draw (T : Tx mg) {f : Addr} {fd : FuncData} (A : At K mg "_law_draw" s__law_draw P__law_draw f fd) {f__law_mixed : Addr} {d__law_mixed : FuncData} (A__law_mixed : At K mg "_law_mixed" s__law_mixed P__law_mixed f__law_mixed d__law_mixed) (G__law_mixed : FnG P wd K mg base (L2.CX P wd) 1 f__law_mixed d__law_mixed P__law_mixed (spF K CA 2 fn__law_mixed)) : FnG P wd K mg base (L2.CX P wd) 2 f fd P__law_draw (spF K CA 2 fn__law_draw) :=
  by rw [fn__law_draw_eq]; exact fn_okG (N := N__law_draw) (g := body__law_draw) A.F sc__law_draw (by decide) fun cdv Ar outer s H E hr hgd =>
  (ss_cons (s_set 2 sc__law_draw.nd rfl (by first | exact Or.inl rfl | exact Or.inr rfl) (se_dget (hu_of hr) (se_var 0 (pv 0)) se_str))
  (ss_cons (s_dput (hu_of hr) (se_add (se_var 2 (pv 2)) se_int) (se_var 0 (pv 0)) se_str)
  (ss_cons (s_if (st_cmp (cr_neD (hu64 hr)) (se_dget (hu_of hr) (se_var 0 (pv 0)) se_str) (se_lst sa_nil) (nomark _))
  (ss_cons (s_set 3 sc__law_draw.nd rfl (by first | exact Or.inl rfl | exact Or.inr rfl) (se_dget (hu_of hr) (se_var 0 (pv 0)) se_str))
  (ss_cons (s_set 4 sc__law_draw.nd rfl (by first | exact Or.inl rfl | exact Or.inr rfl) (se_mod (se_int1 T.b_int (sa_cons (se_var 2 (pv 2)) sa_nil)) (se_len T.b_len (sa_cons (se_var 3 (pv 3)) sa_nil))))
  (ss_cons (s_set 5 sc__law_draw.nd rfl (by first | exact Or.inl rfl | exact Or.inr rfl) (se_ix (se_var 3 (pv 3)) (se_var 4 (pv 4))))
  (ss_one (s_if (st_cmp cr_gt (se_var 5 (pv 5)) se_int (nomark _))
  (ss_cons (s_put (se_div (se_var 5 (pv 5)) (se_var 1 (pv 1))) (se_var 3 (pv 3)) (se_var 4 (pv 4)))
  (ss_one (s_ret (se_mod (se_int1 T.b_int (sa_cons (se_var 5 (pv 5)) sa_nil)) (se_var 1 (pv 1))))))
  ss_nil)))))
  ss_nil)
  (ss_cons (s_set 3 sc__law_draw.nd rfl (by first | exact Or.inl rfl | exact Or.inr rfl) (se_dget (hu_of hr) (se_var 0 (pv 0)) se_str))
  (ss_one (s_ret (se_mod (se_int1 T.b_int (sa_cons (se_fnG G__law_mixed (hr.mono (by decide)) hgd rfl A__law_mixed.m A__law_mixed.k A__law_mixed.b (takes_of rfl rfl rfl rfl) (sa_cons (se_fnG G__law_mixed (hr.mono (by decide)) hgd rfl A__law_mixed.m A__law_mixed.k A__law_mixed.b (takes_of rfl rfl rfl rfl) (sa_cons (se_add (se_ix (se_var 3 (pv 3)) (se_mod (se_int1 T.b_int (sa_cons (se_var 2 (pv 2)) sa_nil)) se_int)) (se_mul se_int (se_div (se_var 2 (pv 2)) se_int))) (sa_cons (se_var 2 (pv 2)) sa_nil))) (sa_cons (se_add (se_var 2 (pv 2)) se_int) sa_nil))) sa_nil)) (se_var 1 (pv 1)))))))))
abbrev s__law_begun : Stmt := top 36
abbrev N__law_begun : List Str := ["script", "m", "cell"]
theorem sc__law_begun : FnScope N__law_begun ["script"] (defScope s__law_begun) := ⟨rfl, rfl, rfl, by decide +kernel, rfl, by decide +kernel, by decide +kernel⟩
abbrev P__law_begun : List Str := ["script"]
theorem ok__law_begun (T : Tx mg) {f : Addr} {fd : FuncData} (A : At K mg "_law_begun" s__law_begun P__law_begun f fd) {f__law_folded : Addr} {d__law_folded : FuncData} (A__law_folded : At K mg "_law_folded" s__law_folded P__law_folded f__law_folded d__law_folded) (G__law_folded : FnG P wd K mg base (L2.CX P wd) 1 f__law_folded d__law_folded P__law_folded (spF K CA 1 fn__law_folded)) : FnG P wd K mg base (L2.CX P wd) 2 f fd P__law_begun (spF K CA 1 fn__law_begun) :=
  by rw [fn__law_begun_eq]; exact fn_okG (N := N__law_begun) (g := body__law_begun) A.F sc__law_begun (by decide) fun cdv Ar outer s H E hr hgd =>
  (ss_cons (s_set 1 sc__law_begun.nd rfl (by first | exact Or.inl rfl | exact Or.inr rfl) (se_disp [((eC (.str "cells")), (eFn 1 fn__law_folded (aCons (eVar 0) aNil))), ((eC (.str "great")), (eLst aNil)), ((eC (.str "spot")), (eC (.int 0)))] (pps_cons se_str (se_fnG G__law_folded (hr.mono (by decide)) hgd rfl A__law_folded.m A__law_folded.k A__law_folded.b (takes_of rfl rfl rfl rfl) (sa_cons (se_var 0 (pv 0)) sa_nil)) (pps_cons se_str (se_lst sa_nil) (pps_cons se_str se_int pps_nil))) (by decide)))
  (ss_cons (s_dput (hu_of hr) (se_lc (own := [("cell", 2)]) rfl sc__law_begun.nd (si_list (se_var 0 (pv 0))) (blkOk_by (own := [("cell", 2)]) (N := N__law_begun) (sc := defScope s__law_begun) (by decide +kernel)) (fun _ _ _ _ _ => (pg_name (i := 2) sc__law_begun.nd rfl (by first | exact Or.inl rfl | exact Or.inr rfl) (by first | exact Or.inl rfl | exact Or.inr rfl))) (gx_name _ 2 (by decide)) (fun _ _ _ _ _ => sts_nil) (fun _ _ _ _ _ => (se_if (st_cmp cr_ge (se_var 2 (pv 2)) (se_pow se_int se_int) (nomark _)) (se_var 2 (pv 2)) se_int))) (se_var 1 (pv 1)) se_str)
  (ss_one (s_ret (se_var 1 (pv 1))))))
abbrev s__law_like : Stmt := top 37
abbrev N__law_like : List Str := ["got", "due"]
theorem sc__law_like : FnScope N__law_like ["got", "due"] (defScope s__law_like) := ⟨rfl, rfl, rfl, by decide +kernel, rfl, by decide +kernel, by decide +kernel⟩
abbrev P__law_like : List Str := ["got", "due"]
theorem ok__law_like (T : Tx mg) {f : Addr} {fd : FuncData} (A : At K mg "_law_like" s__law_like P__law_like f fd) : FnG P wd K mg base (L2.CX P wd) 1 f fd P__law_like (spF K CA 2 fn__law_like) :=
  by rw [fn__law_like_eq]; exact fn_okG (N := N__law_like) (g := body__law_like) A.F sc__law_like (by decide) fun cdv Ar outer s H E hr hgd =>
  (ss_one (s_ret (se_cmp (cr_eqD (hu64 hr)) (se_repr hgd (hu64 hr) T.b_repr (sa_cons (se_var 0 (pv 0)) sa_nil)) (se_repr hgd (hu64 hr) T.b_repr (sa_cons (se_var 1 (pv 1)) sa_nil)) (nomark _))))
abbrev s__law_of : Stmt := top 38
abbrev N__law_of : List Str := ["m", "some"]
theorem sc__law_of : FnScope N__law_of ["m", "some"] (defScope s__law_of) := ⟨rfl, rfl, rfl, by decide +kernel, rfl, by decide +kernel, by decide +kernel⟩
abbrev P__law_of : List Str := ["m", "some"]
theorem ok__law_of (T : Tx mg) {f : Addr} {fd : FuncData} (A : At K mg "_law_of" s__law_of P__law_of f fd) {f__law_draw : Addr} {d__law_draw : FuncData} (A__law_draw : At K mg "_law_draw" s__law_draw P__law_draw f__law_draw d__law_draw) (G__law_draw : FnG P wd K mg base (L2.CX P wd) 2 f__law_draw d__law_draw P__law_draw (spF K CA 2 fn__law_draw)) : FnG P wd K mg base (L2.CX P wd) 3 f fd P__law_of (spF K CA 2 fn__law_of) :=
  by rw [fn__law_of_eq]; exact fn_okG (N := N__law_of) (g := body__law_of) A.F sc__law_of (by decide) fun cdv Ar outer s H E hr hgd =>
  (ss_one (s_ret (se_ix (se_var 1 (pv 1)) (se_fnG G__law_draw (hr.mono (by decide)) hgd rfl A__law_draw.m A__law_draw.k A__law_draw.b (takes_of rfl rfl rfl rfl) (sa_cons (se_var 0 (pv 0)) (sa_cons (se_len T.b_len (sa_cons (se_var 1 (pv 1)) sa_nil)) sa_nil))))))
abbrev s__law_four_place : Stmt := top 39
abbrev N__law_four_place : List Str := ["m", "dimension", "reach", "turn"]
theorem sc__law_four_place : FnScope N__law_four_place ["m", "dimension", "reach"] (defScope s__law_four_place) := ⟨rfl, rfl, rfl, by decide +kernel, rfl, by decide +kernel, by decide +kernel⟩
abbrev P__law_four_place : List Str := ["m", "dimension", "reach"]
theorem ok__law_four_place (T : Tx mg) {f : Addr} {fd : FuncData} (A : At K mg "_law_four_place" s__law_four_place P__law_four_place f fd) {f__law_draw : Addr} {d__law_draw : FuncData} (A__law_draw : At K mg "_law_draw" s__law_draw P__law_draw f__law_draw d__law_draw) (G__law_draw : FnG P wd K mg base (L2.CX P wd) 2 f__law_draw d__law_draw P__law_draw (spF K CA 2 fn__law_draw)) : FnG P wd K mg base (L2.CX P wd) 3 f fd P__law_four_place (spF K CA 3 fn__law_four_place) :=
  by rw [fn__law_four_place_eq]; exact fn_okG (N := N__law_four_place) (g := body__law_four_place) A.F sc__law_four_place (by decide) fun cdv Ar outer s H E hr hgd =>
  (ss_one (s_ret (se_tuple T.b_tuple (sa_cons (se_lc (own := [("turn", 3)]) rfl sc__law_four_place.nd (si_r1 T.b_range (sa_cons (se_if (st_cmp (cr_eqD (hu64 hr)) (se_var 1 (pv 1)) se_int (nomark _)) se_int se_int) sa_nil)) (blkOk_by (own := [("turn", 3)]) (N := N__law_four_place) (sc := defScope s__law_four_place) (by decide +kernel)) (fun _ _ _ _ _ => (pg_name (i := 3) sc__law_four_place.nd rfl (by first | exact Or.inl rfl | exact Or.inr rfl) (by first | exact Or.inl rfl | exact Or.inr rfl))) (gx_name _ 3 (by decide)) (fun _ _ _ _ _ => sts_nil) (fun _ _ _ _ _ => (se_sub (se_fnG G__law_draw (hr.mono (by decide)) hgd rfl A__law_draw.m A__law_draw.k A__law_draw.b takes0 (sa_cons (se_var 0 (pv 0)) (sa_cons (se_add (se_mul se_int (se_var 2 (pv 2))) se_int) sa_nil))) (se_var 2 (pv 2))))) sa_nil))))
abbrev s__law_four_gcd : Stmt := top 40
abbrev N__law_four_gcd : List Str := ["one", "other", "turn"]
theorem sc__law_four_gcd : FnScope N__law_four_gcd ["one", "other"] (defScope s__law_four_gcd) := ⟨rfl, rfl, rfl, by decide +kernel, rfl, by decide +kernel, by decide +kernel⟩
abbrev P__law_four_gcd : List Str := ["one", "other"]
theorem ok__law_four_gcd (T : Tx mg) {f : Addr} {fd : FuncData} (A : At K mg "_law_four_gcd" s__law_four_gcd P__law_four_gcd f fd) : FnG P wd K mg base (L2.CX P wd) 1 f fd P__law_four_gcd (spF K CA 2 fn__law_four_gcd) :=
  by rw [fn__law_four_gcd_eq]; exact fn_okG (N := N__law_four_gcd) (g := body__law_four_gcd) A.F sc__law_four_gcd (by decide) fun cdv Ar outer s H E hr hgd =>
  (ss_cons (s_for PassesOwn.leaving rfl (si_r1 T.b_range (sa_cons se_int sa_nil)) (sg_name 2 (pg_name (i := 2) sc__law_four_gcd.nd rfl (by first | exact Or.inl rfl | exact Or.inr rfl) (by first | exact Or.inl rfl | exact Or.inr rfl)))
  (ss_cons (s_if (st_cmp (cr_eqD (hu64 hr)) (se_var 1 (pv 1)) se_int (nomark _))
  (ss_one s_break)
  ss_nil)
  (ss_one (s_par rfl sc__law_four_gcd.nd rfl rfl (by decide) rfl rfl (sa_cons (se_var 1 (pv 1)) (sa_cons (se_mod (se_int1 T.b_int (sa_cons (se_var 0 (pv 0)) sa_nil)) (se_var 1 (pv 1))) sa_nil)) (by rfl)))))
  (ss_one (s_ret (se_var 0 (pv 0)))))
abbrev s__law_four_short : Stmt := top 41
abbrev N__law_four_short : List Str := ["row", "share", "number"]
theorem sc__law_four_short : FnScope N__law_four_short ["row"] (defScope s__law_four_short) := ⟨rfl, rfl, rfl, by decide +kernel, rfl, by decide +kernel, by decide +kernel⟩
abbrev P__law_four_short : List Str := ["row"]
theorem ok__law_four_short (T : Tx mg) {f : Addr} {fd : FuncData} (A : At K mg "_law_four_short" s__law_four_short P__law_four_short f fd) {f__law_four_gcd : Addr} {d__law_four_gcd : FuncData} (A__law_four_gcd : At K mg "_law_four_gcd" s__law_four_gcd P__law_four_gcd f__law_four_gcd d__law_four_gcd) (G__law_four_gcd : FnG P wd K mg base (L2.CX P wd) 1 f__law_four_gcd d__law_four_gcd P__law_four_gcd (spF K CA 2 fn__law_four_gcd)) : FnG P wd K mg base (L2.CX P wd) 2 f fd P__law_four_short (spF K CA 1 fn__law_four_short) :=
  by rw [fn__law_four_short_eq]; exact fn_okG (N := N__law_four_short) (g := body__law_four_short) A.F sc__law_four_short (by decide) fun cdv Ar outer s H E hr hgd =>
  (ss_cons (s_set 1 sc__law_four_short.nd rfl (by first | exact Or.inl rfl | exact Or.inr rfl) se_int)
  (ss_cons (s_for PassesOwn.leaving rfl (si_seq (se_var 0 (pv 0))) (sg_name 2 (pg_name (i := 2) sc__law_four_short.nd rfl (by first | exact Or.inl rfl | exact Or.inr rfl) (by first | exact Or.inl rfl | exact Or.inr rfl)))
  (ss_one (s_set 1 sc__law_four_short.nd rfl (by first | exact Or.inl rfl | exact Or.inr rfl) (se_fnG G__law_four_gcd (hr.mono (by decide)) hgd rfl A__law_four_gcd.m A__law_four_gcd.k A__law_four_gcd.b (takes_of rfl rfl rfl rfl) (sa_cons (se_abs T.b_abs (sa_cons (se_var 2 (pv 2)) sa_nil)) (sa_cons (se_var 1 (pv 1)) sa_nil))))))
  (ss_one (s_ret (se_if (st_cmp cr_gt (se_var 1 (pv 1)) se_int (nomark _)) (se_lc (own := [("number", 2)]) rfl sc__law_four_short.nd (si_seq (se_var 0 (pv 0))) (blkOk_by (own := [("number", 2)]) (N := N__law_four_short) (sc := defScope s__law_four_short) (by decide +kernel)) (fun _ _ _ _ _ => (pg_name (i := 2) sc__law_four_short.nd rfl (by first | exact Or.inl rfl | exact Or.inr rfl) (by first | exact Or.inl rfl | exact Or.inr rfl))) (gx_name _ 2 (by decide)) (fun _ _ _ _ _ => sts_nil) (fun _ _ _ _ _ => (se_div (se_var 2 (pv 2)) (se_var 1 (pv 1))))) (se_list T.b_list (sa_cons (se_var 0 (pv 0)) sa_nil)))))))
abbrev s__law_three_number : Stmt := top 42
abbrev N__law_three_number : List Str := ["m", "most"]
theorem sc__law_three_number : FnScope N__law_three_number ["m", "most"] (defScope s__law_three_number) := ⟨rfl, rfl, rfl, by decide +kernel, rfl, by decide +kernel, by decide +kernel⟩
abbrev P__law_three_number : List Str := ["m", "most"]
theorem ok__law_three_number (T : Tx mg) {f : Addr} {fd : FuncData} (A : At K mg "_law_three_number" s__law_three_number P__law_three_number f fd) {f__law_draw : Addr} {d__law_draw : FuncData} (A__law_draw : At K mg "_law_draw" s__law_draw P__law_draw f__law_draw d__law_draw) (G__law_draw : FnG P wd K mg base (L2.CX P wd) 2 f__law_draw d__law_draw P__law_draw (spF K CA 2 fn__law_draw)) : FnG P wd K mg base (L2.CX P wd) 3 f fd P__law_three_number (spF K CA 2 fn__law_three_number) :=
  by rw [fn__law_three_number_eq]; exact fn_okG (N := N__law_three_number) (g := body__law_three_number) A.F sc__law_three_number (by decide) fun cdv Ar outer s H E hr hgd =>
  (ss_one (s_ret (se_sub (se_fnG G__law_draw (hr.mono (by decide)) hgd rfl A__law_draw.m A__law_draw.k A__law_draw.b (takes_of rfl rfl rfl rfl) (sa_cons (se_var 0 (pv 0)) (sa_cons (se_add (se_mul se_int (se_var 1 (pv 1))) se_int) sa_nil))) (se_var 1 (pv 1)))))
abbrev s__law_three_dot : Stmt := top 43
abbrev N__law_three_dot : List Str := ["one", "other", "first", "second"]
theorem sc__law_three_dot : FnScope N__law_three_dot ["one", "other"] (defScope s__law_three_dot) := ⟨rfl, rfl, rfl, by decide +kernel, rfl, by decide +kernel, by decide +kernel⟩
abbrev P__law_three_dot : List Str := ["one", "other"]
theorem ok__law_three_dot (T : Tx mg) {f : Addr} {fd : FuncData} (A : At K mg "_law_three_dot" s__law_three_dot P__law_three_dot f fd) : FnG P wd K mg base (L2.CX P wd) 1 f fd P__law_three_dot (spF K CA 2 fn__law_three_dot) :=
  by rw [fn__law_three_dot_eq]; exact fn_okG (N := N__law_three_dot) (g := body__law_three_dot) A.F sc__law_three_dot (by decide) fun cdv Ar outer s H E hr hgd =>
  (ss_one (s_ret (se_sum rfl T.b_sum (sa_cons (se_lc (own := [("first", 2), ("second", 3)]) rfl sc__law_three_dot.nd (si_list (se_lzip rfl T.b_list T.b_zip (sa_cons (se_var 0 (pv 0)) (sa_cons (se_var 1 (pv 1)) sa_nil)))) (blkOk_by (own := [("first", 2), ("second", 3)]) (N := N__law_three_dot) (sc := defScope s__law_three_dot) (by decide +kernel)) (fun _ _ _ _ _ => (pg_tup (n := 2) rfl (pgs_cons (pg_name (i := 2) sc__law_three_dot.nd rfl (by first | exact Or.inl rfl | exact Or.inr rfl) (by first | exact Or.inl rfl | exact Or.inr rfl)) (pgs_cons (pg_name (i := 3) sc__law_three_dot.nd rfl (by first | exact Or.inl rfl | exact Or.inr rfl) (by first | exact Or.inl rfl | exact Or.inr rfl)) pgs_nil)))) (gx_tup (gxs_cons (gx_name _ 2 (by decide)) (gxs_cons (gx_name _ 3 (by decide)) (gxs_nil _)))) (fun _ _ _ _ _ => sts_nil) (fun _ _ _ _ _ => (se_mul (se_var 2 (pv 2)) (se_var 3 (pv 3))))) sa_nil))))
abbrev s__law_three_cross : Stmt := top 44
abbrev N__law_three_cross : List Str := ["one", "other", "found", "n"]
theorem sc__law_three_cross : FnScope N__law_three_cross ["one", "other"] (defScope s__law_three_cross) := ⟨rfl, rfl, rfl, by decide +kernel, rfl, by decide +kernel, by decide +kernel⟩
abbrev P__law_three_cross : List Str := ["one", "other"]
theorem ok__law_three_cross (T : Tx mg) {f : Addr} {fd : FuncData} (A : At K mg "_law_three_cross" s__law_three_cross P__law_three_cross f fd) : FnG P wd K mg base (L2.CX P wd) 1 f fd P__law_three_cross (spF K CA 2 fn__law_three_cross) :=
  by rw [fn__law_three_cross_eq]; exact fn_okG (N := N__law_three_cross) (g := body__law_three_cross) A.F sc__law_three_cross (by decide) fun cdv Ar outer s H E hr hgd =>
  (ss_cons (s_set 2 sc__law_three_cross.nd rfl (by first | exact Or.inl rfl | exact Or.inr rfl) (se_lst sa_nil))
  (ss_cons (s_for PassesOwn.leaving rfl (si_r1 T.b_range (sa_cons se_int sa_nil)) (sg_name 3 (pg_name (i := 3) sc__law_three_cross.nd rfl (by first | exact Or.inl rfl | exact Or.inr rfl) (by first | exact Or.inl rfl | exact Or.inr rfl)))
  (ss_one (s_expr (se_app (se_var 2 (pv 2)) (sa_cons (se_sub (se_mul (se_ix (se_var 0 (pv 0)) (se_mod (se_add (se_var 3 (pv 3)) se_int) se_int)) (se_ix (se_var 1 (pv 1)) (se_mod (se_add (se_var 3 (pv 3)) se_int) se_int))) (se_mul (se_ix (se_var 0 (pv 0)) (se_mod (se_add (se_var 3 (pv 3)) se_int) se_int)) (se_ix (se_var 1 (pv 1)) (se_mod (se_add (se_var 3 (pv 3)) se_int) se_int)))) sa_nil)))))
  (ss_one (s_ret (se_tuple T.b_tuple (sa_cons (se_var 2 (pv 2)) sa_nil))))))
abbrev s__law_three_plus : Stmt := top 45
abbrev N__law_three_plus : List Str := ["one", "times", "other", "first", "second"]
theorem sc__law_three_plus : FnScope N__law_three_plus ["one", "times", "other"] (defScope s__law_three_plus) := ⟨rfl, rfl, rfl, by decide +kernel, rfl, by decide +kernel, by decide +kernel⟩
abbrev P__law_three_plus : List Str := ["one", "times", "other"]
theorem ok__law_three_plus (T : Tx mg) {f : Addr} {fd : FuncData} (A : At K mg "_law_three_plus" s__law_three_plus P__law_three_plus f fd) : FnG P wd K mg base (L2.CX P wd) 1 f fd P__law_three_plus (spF K CA 3 fn__law_three_plus) :=
  by rw [fn__law_three_plus_eq]; exact fn_okG (N := N__law_three_plus) (g := body__law_three_plus) A.F sc__law_three_plus (by decide) fun cdv Ar outer s H E hr hgd =>
  (ss_one (s_ret (se_tuple T.b_tuple (sa_cons (se_lc (own := [("first", 3), ("second", 4)]) rfl sc__law_three_plus.nd (si_list (se_lzip rfl T.b_list T.b_zip (sa_cons (se_var 0 (pv 0)) (sa_cons (se_var 2 (pv 2)) sa_nil)))) (blkOk_by (own := [("first", 3), ("second", 4)]) (N := N__law_three_plus) (sc := defScope s__law_three_plus) (by decide +kernel)) (fun _ _ _ _ _ => (pg_tup (n := 2) rfl (pgs_cons (pg_name (i := 3) sc__law_three_plus.nd rfl (by first | exact Or.inl rfl | exact Or.inr rfl) (by first | exact Or.inl rfl | exact Or.inr rfl)) (pgs_cons (pg_name (i := 4) sc__law_three_plus.nd rfl (by first | exact Or.inl rfl | exact Or.inr rfl) (by first | exact Or.inl rfl | exact Or.inr rfl)) pgs_nil)))) (gx_tup (gxs_cons (gx_name _ 3 (by decide)) (gxs_cons (gx_name _ 4 (by decide)) (gxs_nil _)))) (fun _ _ _ _ _ => sts_nil) (fun _ _ _ _ _ => (se_add (se_var 3 (pv 3)) (se_mul (se_var 1 (pv 1)) (se_var 4 (pv 4)))))) sa_nil))))
abbrev s__law_three_is_row : Stmt := top 46
abbrev N__law_three_is_row : List Str := ["value", "wide", "number"]
theorem sc__law_three_is_row : FnScope N__law_three_is_row ["value", "wide"] (defScope s__law_three_is_row) := ⟨rfl, rfl, rfl, by decide +kernel, rfl, by decide +kernel, by decide +kernel⟩
abbrev P__law_three_is_row : List Str := ["value", "wide"]
theorem ok__law_three_is_row (T : Tx mg) {f : Addr} {fd : FuncData} (A : At K mg "_law_three_is_row" s__law_three_is_row P__law_three_is_row f fd) : FnG P wd K mg base (L2.CX P wd) 1 f fd P__law_three_is_row (spF K CA 2 fn__law_three_is_row) :=
  by rw [fn__law_three_is_row_eq]; exact fn_okG (N := N__law_three_is_row) (g := body__law_three_is_row) A.F sc__law_three_is_row (by decide) fun cdv Ar outer s H E hr hgd =>
  (ss_cons (s_if (PW.pt (sw_or (st_not (st_val (se_isi T.b_isinstance T.b_tuple boot_tuple' (se_var 0 (pv 0))))) (sw_or1 (st_cmp (cr_neD (hu64 hr)) (se_len T.b_len (sa_cons (se_var 0 (pv 0)) sa_nil)) (se_var 1 (pv 1)) (nomark _)))))
  (ss_one (s_ret se_bl))
  ss_nil)
  (ss_one (s_ret (se_cmp (cr_eqD (hu64 hr)) (se_lc (own := [("number", 2)]) rfl sc__law_three_is_row.nd (si_seq (se_var 0 (pv 0))) (blkOk_by (own := [("number", 2)]) (N := N__law_three_is_row) (sc := defScope s__law_three_is_row) (by decide +kernel)) (fun _ _ _ _ _ => (pg_name (i := 2) sc__law_three_is_row.nd rfl (by first | exact Or.inl rfl | exact Or.inr rfl) (by first | exact Or.inl rfl | exact Or.inr rfl))) (gx_name _ 2 (by decide)) (fun _ _ _ _ _ => (sts_one (PW.pt (sw_or (st_val (se_isi T.b_isinstance T.b_bool boot_bool' (se_var 2 (pv 2)))) (sw_or1 (st_not (st_val (se_isi T.b_isinstance T.b_int boot_int' (se_var 2 (pv 2)))))))))) (fun _ _ _ _ _ => se_int)) (se_lst sa_nil) (nomark _)))))
abbrev s__law_three_bad : Stmt := top 47
abbrev N__law_three_bad : List Str := ["m", "row", "pick", "spot"]
theorem sc__law_three_bad : FnScope N__law_three_bad ["m", "row"] (defScope s__law_three_bad) := ⟨rfl, rfl, rfl, by decide +kernel, rfl, by decide +kernel, by decide +kernel⟩
abbrev P__law_three_bad : List Str := ["m", "row"]
theorem ok__law_three_bad (T : Tx mg) {f : Addr} {fd : FuncData} (A : At K mg "_law_three_bad" s__law_three_bad P__law_three_bad f fd) {f__law_draw : Addr} {d__law_draw : FuncData} (A__law_draw : At K mg "_law_draw" s__law_draw P__law_draw f__law_draw d__law_draw) (G__law_draw : FnG P wd K mg base (L2.CX P wd) 2 f__law_draw d__law_draw P__law_draw (spF K CA 2 fn__law_draw)) {f__law_of : Addr} {d__law_of : FuncData} (A__law_of : At K mg "_law_of" s__law_of P__law_of f__law_of d__law_of) (G__law_of : FnG P wd K mg base (L2.CX P wd) 3 f__law_of d__law_of P__law_of (spF K CA 2 fn__law_of)) : FnG P wd K mg base (L2.CX P wd) 4 f fd P__law_three_bad (spF K CA 2 fn__law_three_bad) :=
  by rw [fn__law_three_bad_eq]; exact fn_okG (N := N__law_three_bad) (g := body__law_three_bad) A.F sc__law_three_bad (by decide) fun cdv Ar outer s H E hr hgd =>
  (ss_cons (s_set 2 sc__law_three_bad.nd rfl (by first | exact Or.inl rfl | exact Or.inr rfl) (se_fnG G__law_draw (hr.mono (by decide)) hgd rfl A__law_draw.m A__law_draw.k A__law_draw.b (takes_of rfl rfl rfl rfl) (sa_cons (se_var 0 (pv 0)) (sa_cons se_int sa_nil))))
  (ss_cons (s_if (PW.pt (sw_or (st_cmp (cr_eqD (hu64 hr)) (se_var 2 (pv 2)) se_int (nomark _)) (sw_or1 (st_cmp (cr_eqD (hu64 hr)) (se_len T.b_len (sa_cons (se_var 1 (pv 1)) sa_nil)) se_int (nomark _)))))
  (ss_one (s_ret (se_fnG G__law_of (hr.mono (by decide)) hgd rfl A__law_of.m A__law_of.k A__law_of.b (takes_of rfl rfl rfl rfl) (sa_cons (se_var 0 (pv 0)) (sa_cons (se_lst (sa_cons se_non (sa_cons (se_list T.b_list (sa_cons (se_var 1 (pv 1)) sa_nil)) (sa_cons se_int (sa_cons se_str (sa_cons se_newD sa_nil)))))) sa_nil)))))
  ss_nil)
  (ss_cons (s_if (st_cmp (cr_eqD (hu64 hr)) (se_var 2 (pv 2)) se_int (nomark _))
  (ss_one (s_ret (se_fnG G__law_of (hr.mono (by decide)) hgd rfl A__law_of.m A__law_of.k A__law_of.b (takes_of rfl rfl rfl rfl) (sa_cons (se_var 0 (pv 0)) (sa_cons (se_lst (sa_cons (se_add (se_var 1 (pv 1)) (se_tup (sa_cons se_int sa_nil))) (sa_cons (se_sl (se_var 1 (pv 1)) (sp_some se_int) sp_none) (sa_cons (se_add (se_var 1 (pv 1)) (se_var 1 (pv 1))) sa_nil)))) sa_nil)))))
  ss_nil)
  (ss_cons (s_set 3 sc__law_three_bad.nd rfl (by first | exact Or.inl rfl | exact Or.inr rfl) (se_fnG G__law_draw (hr.mono (by decide)) hgd rfl A__law_draw.m A__law_draw.k A__law_draw.b (takes_of rfl rfl rfl rfl) (sa_cons (se_var 0 (pv 0)) (sa_cons (se_len T.b_len (sa_cons (se_var 1 (pv 1)) sa_nil)) sa_nil))))
  (ss_one (s_ret (se_add (se_add (se_sl (se_var 1 (pv 1)) sp_none (sp_some (se_var 3 (pv 3)))) (se_tup (sa_cons (se_fnG G__law_of (hr.mono (by decide)) hgd rfl A__law_of.m A__law_of.k A__law_of.b (takes_of rfl rfl rfl rfl) (sa_cons (se_var 0 (pv 0)) (sa_cons (se_lst (sa_cons se_non (sa_cons se_bl (sa_cons se_bl (sa_cons se_str (sa_cons (se_tup (sa_cons se_int sa_nil)) (sa_cons (se_lst (sa_cons se_int sa_nil)) sa_nil))))))) sa_nil))) sa_nil))) (se_sl (se_var 1 (pv 1)) (sp_some (se_add (se_var 3 (pv 3)) se_int)) sp_none))))))))
abbrev s__law_motion : Stmt := top 48
abbrev N__law_motion : List Str := ["m", "most", "pick", "turning", "start", "along", "share", "turn", "number"]
theorem sc__law_motion : FnScope N__law_motion ["m"] (defScope s__law_motion) := ⟨rfl, rfl, rfl, by decide +kernel, rfl, by decide +kernel, by decide +kernel⟩
abbrev P__law_motion : List Str := ["m"]
theorem ok__law_motion (T : Tx mg) {f : Addr} {fd : FuncData} (A : At K mg "_law_motion" s__law_motion P__law_motion f fd) {f__law_draw : Addr} {d__law_draw : FuncData} (A__law_draw : At K mg "_law_draw" s__law_draw P__law_draw f__law_draw d__law_draw) (G__law_draw : FnG P wd K mg base (L2.CX P wd) 2 f__law_draw d__law_draw P__law_draw (spF K CA 2 fn__law_draw)) {f__law_of : Addr} {d__law_of : FuncData} (A__law_of : At K mg "_law_of" s__law_of P__law_of f__law_of d__law_of) (G__law_of : FnG P wd K mg base (L2.CX P wd) 3 f__law_of d__law_of P__law_of (spF K CA 2 fn__law_of)) {f__law_three_number : Addr} {d__law_three_number : FuncData} (A__law_three_number : At K mg "_law_three_number" s__law_three_number P__law_three_number f__law_three_number d__law_three_number) (G__law_three_number : FnG P wd K mg base (L2.CX P wd) 3 f__law_three_number d__law_three_number P__law_three_number (spF K CA 2 fn__law_three_number)) {f__law_four_place : Addr} {d__law_four_place : FuncData} (A__law_four_place : At K mg "_law_four_place" s__law_four_place P__law_four_place f__law_four_place d__law_four_place) (G__law_four_place : FnG P wd K mg base (L2.CX P wd) 3 f__law_four_place d__law_four_place P__law_four_place (spF K CA 3 fn__law_four_place)) {f__law_three_plus : Addr} {d__law_three_plus : FuncData} (A__law_three_plus : At K mg "_law_three_plus" s__law_three_plus P__law_three_plus f__law_three_plus d__law_three_plus) (G__law_three_plus : FnG P wd K mg base (L2.CX P wd) 1 f__law_three_plus d__law_three_plus P__law_three_plus (spF K CA 3 fn__law_three_plus)) {f__law_three_cross : Addr} {d__law_three_cross : FuncData} (A__law_three_cross : At K mg "_law_three_cross" s__law_three_cross P__law_three_cross f__law_three_cross d__law_three_cross) (G__law_three_cross : FnG P wd K mg base (L2.CX P wd) 1 f__law_three_cross d__law_three_cross P__law_three_cross (spF K CA 2 fn__law_three_cross)) : FnG P wd K mg base (L2.CX P wd) 4 f fd P__law_motion (spF K CA 1 fn__law_motion) :=
  by rw [fn__law_motion_eq]; exact fn_okG (N := N__law_motion) (g := body__law_motion) A.F sc__law_motion (by decide) fun cdv Ar outer s H E hr hgd =>
  (ss_cons (s_asg (se_tup (sa_cons (se_fnG G__law_of (hr.mono (by decide)) hgd rfl A__law_of.m A__law_of.k A__law_of.b (takes_of rfl rfl rfl rfl) (sa_cons (se_var 0 (pv 0)) (sa_cons (se_lst (sa_cons se_int (sa_cons se_int (sa_cons se_int (sa_cons (se_pow se_int se_int) sa_nil))))) sa_nil))) (sa_cons (se_fnG G__law_draw (hr.mono (by decide)) hgd rfl A__law_draw.m A__law_draw.k A__law_draw.b (takes_of rfl rfl rfl rfl) (sa_cons (se_var 0 (pv 0)) (sa_cons se_int sa_nil))) sa_nil))) (sg_tup (n := 2) rfl (sgs_cons (sg_name 1 (pg_name (i := 1) sc__law_motion.nd rfl (by first | exact Or.inl rfl | exact Or.inr rfl) (by first | exact Or.inl rfl | exact Or.inr rfl))) (sgs_cons (sg_name 2 (pg_name (i := 2) sc__law_motion.nd rfl (by first | exact Or.inl rfl | exact Or.inr rfl) (by first | exact Or.inl rfl | exact Or.inr rfl))) sgs_nil))))
  (ss_cons (s_set 3 sc__law_motion.nd rfl (by first | exact Or.inl rfl | exact Or.inr rfl) (se_tuple T.b_tuple (sa_cons (se_lc (own := [("turn", 7)]) rfl sc__law_motion.nd (si_r1 T.b_range (sa_cons se_int sa_nil)) (blkOk_by (own := [("turn", 7)]) (N := N__law_motion) (sc := defScope s__law_motion) (by decide +kernel)) (fun _ _ _ _ _ => (pg_name (i := 7) sc__law_motion.nd rfl (by first | exact Or.inl rfl | exact Or.inr rfl) (by first | exact Or.inl rfl | exact Or.inr rfl))) (gx_name _ 7 (by decide)) (fun _ _ _ _ _ => sts_nil) (fun _ _ _ _ _ => (se_fnG G__law_three_number (hr.mono (by decide)) hgd rfl A__law_three_number.m A__law_three_number.k A__law_three_number.b takes0 (sa_cons (se_var 0 (pv 0)) (sa_cons (se_var 1 (pv 1)) sa_nil))))) sa_nil)))
  (ss_cons (s_if (st_cmp (cr_eqD (hu64 hr)) (se_var 2 (pv 2)) se_int (nomark _))
  (ss_one (s_ret (se_add (se_var 3 (pv 3)) (se_tup (sa_cons se_int (sa_cons se_int (sa_cons se_int sa_nil)))))))
  ss_nil)
  (ss_cons (s_if (st_cmp (cr_eqD (hu64 hr)) (se_var 2 (pv 2)) se_int (nomark _))
  (ss_cons (s_par rfl sc__law_motion.nd rfl rfl (by decide) rfl rfl (sa_cons (se_fnG G__law_four_place (hr.mono (by decide)) hgd rfl A__law_four_place.m A__law_four_place.k A__law_four_place.b (takes_of rfl rfl rfl rfl) (sa_cons (se_var 0 (pv 0)) (sa_cons se_int (sa_cons (se_var 1 (pv 1)) sa_nil)))) (sa_cons (se_fnG G__law_three_number (hr.mono (by decide)) hgd rfl A__law_three_number.m A__law_three_number.k A__law_three_number.b (takes_of rfl rfl rfl rfl) (sa_cons (se_var 0 (pv 0)) (sa_cons se_int sa_nil))) sa_nil)) (by rfl))
  (ss_one (s_ret (se_add (se_fnG G__law_three_plus (hr.mono (by decide)) hgd rfl A__law_three_plus.m A__law_three_plus.k A__law_three_plus.b (takes_of rfl rfl rfl rfl) (sa_cons (se_fnG G__law_three_cross (hr.mono (by decide)) hgd rfl A__law_three_cross.m A__law_three_cross.k A__law_three_cross.b (takes_of rfl rfl rfl rfl) (sa_cons (se_var 4 (pv 4)) (sa_cons (se_var 3 (pv 3)) sa_nil))) (sa_cons (se_var 5 (pv 5)) (sa_cons (se_var 3 (pv 3)) sa_nil)))) (se_var 3 (pv 3))))))
  ss_nil)
  (ss_cons (s_if (st_cmp (cr_eqD (hu64 hr)) (se_var 2 (pv 2)) se_int (nomark _))
  (ss_cons (s_set 6 sc__law_motion.nd rfl (by first | exact Or.inl rfl | exact Or.inr rfl) (se_add se_int (se_fnG G__law_draw (hr.mono (by decide)) hgd rfl A__law_draw.m A__law_draw.k A__law_draw.b (takes_of rfl rfl rfl rfl) (sa_cons (se_var 0 (pv 0)) (sa_cons se_int sa_nil)))))
  (ss_one (s_ret (se_add (se_tuple T.b_tuple (sa_cons (se_lc (own := [("turn", 7)]) rfl sc__law_motion.nd (si_r1 T.b_range (sa_cons se_int sa_nil)) (blkOk_by (own := [("turn", 7)]) (N := N__law_motion) (sc := defScope s__law_motion) (by decide +kernel)) (fun _ _ _ _ _ => (pg_name (i := 7) sc__law_motion.nd rfl (by first | exact Or.inl rfl | exact Or.inr rfl) (by first | exact Or.inl rfl | exact Or.inr rfl))) (gx_name _ 7 (by decide)) (fun _ _ _ _ _ => sts_nil) (fun _ _ _ _ _ => (se_fnG G__law_three_number (hr.mono (by decide)) hgd rfl A__law_three_number.m A__law_three_number.k A__law_three_number.b takes0 (sa_cons (se_var 0 (pv 0)) (sa_cons (se_var 1 (pv 1)) sa_nil))))) sa_nil)) (se_tuple T.b_tuple (sa_cons (se_lc (own := [("number", 8)]) rfl sc__law_motion.nd (si_seq (se_var 3 (pv 3))) (blkOk_by (own := [("number", 8)]) (N := N__law_motion) (sc := defScope s__law_motion) (by decide +kernel)) (fun _ _ _ _ _ => (pg_name (i := 8) sc__law_motion.nd rfl (by first | exact Or.inl rfl | exact Or.inr rfl) (by first | exact Or.inl rfl | exact Or.inr rfl))) (gx_name _ 8 (by decide)) (fun _ _ _ _ _ => sts_nil) (fun _ _ _ _ _ => (se_mul (se_var 6 (pv 6)) (se_var 8 (pv 8))))) sa_nil))))))
  ss_nil)
  (ss_one (s_ret (se_add (se_tuple T.b_tuple (sa_cons (se_lc (own := [("turn", 7)]) rfl sc__law_motion.nd (si_r1 T.b_range (sa_cons se_int sa_nil)) (blkOk_by (own := [("turn", 7)]) (N := N__law_motion) (sc := defScope s__law_motion) (by decide +kernel)) (fun _ _ _ _ _ => (pg_name (i := 7) sc__law_motion.nd rfl (by first | exact Or.inl rfl | exact Or.inr rfl) (by first | exact Or.inl rfl | exact Or.inr rfl))) (gx_name _ 7 (by decide)) (fun _ _ _ _ _ => sts_nil) (fun _ _ _ _ _ => (se_fnG G__law_three_number (hr.mono (by decide)) hgd rfl A__law_three_number.m A__law_three_number.k A__law_three_number.b takes0 (sa_cons (se_var 0 (pv 0)) (sa_cons (se_var 1 (pv 1)) sa_nil))))) sa_nil)) (se_var 3 (pv 3))))))))))
abbrev s__law_scaled : Stmt := top 49
abbrev N__law_scaled : List Str := ["motion", "count", "numbers", "number"]
theorem sc__law_scaled : FnScope N__law_scaled ["motion", "count", "numbers"] (defScope s__law_scaled) := ⟨rfl, rfl, rfl, by decide +kernel, rfl, by decide +kernel, by decide +kernel⟩
abbrev P__law_scaled : List Str := ["motion", "count", "numbers"]
theorem ok__law_scaled (T : Tx mg) {f : Addr} {fd : FuncData} (A : At K mg "_law_scaled" s__law_scaled P__law_scaled f fd) {f__law_three_plus : Addr} {d__law_three_plus : FuncData} (A__law_three_plus : At K mg "_law_three_plus" s__law_three_plus P__law_three_plus f__law_three_plus d__law_three_plus) (G__law_three_plus : FnG P wd K mg base (L2.CX P wd) 1 f__law_three_plus d__law_three_plus P__law_three_plus (spF K CA 3 fn__law_three_plus)) {f__law_three_cross : Addr} {d__law_three_cross : FuncData} (A__law_three_cross : At K mg "_law_three_cross" s__law_three_cross P__law_three_cross f__law_three_cross d__law_three_cross) (G__law_three_cross : FnG P wd K mg base (L2.CX P wd) 1 f__law_three_cross d__law_three_cross P__law_three_cross (spF K CA 2 fn__law_three_cross)) : FnG P wd K mg base (L2.CX P wd) 2 f fd P__law_scaled (spF K CA 3 fn__law_scaled) :=
  by rw [fn__law_scaled_eq]; exact fn_okG (N := N__law_scaled) (g := body__law_scaled) A.F sc__law_scaled (by decide) fun cdv Ar outer s H E hr hgd =>
  (ss_one (s_ret (se_fnG G__law_three_plus (hr.mono (by decide)) hgd rfl A__law_three_plus.m A__law_three_plus.k A__law_three_plus.b (takes_of rfl rfl rfl rfl) (sa_cons (se_lc (own := [("number", 3)]) rfl sc__law_scaled.nd (si_seq (se_sl (se_var 0 (pv 0)) sp_none (sp_some se_int))) (blkOk_by (own := [("number", 3)]) (N := N__law_scaled) (sc := defScope s__law_scaled) (by decide +kernel)) (fun _ _ _ _ _ => (pg_name (i := 3) sc__law_scaled.nd rfl (by first | exact Or.inl rfl | exact Or.inr rfl) (by first | exact Or.inl rfl | exact Or.inr rfl))) (gx_name _ 3 (by decide)) (fun _ _ _ _ _ => sts_nil) (fun _ _ _ _ _ => (se_mul (se_var 1 (pv 1)) (se_var 3 (pv 3))))) (sa_cons se_int (sa_cons (se_fnG G__law_three_cross (hr.mono (by decide)) hgd rfl A__law_three_cross.m A__law_three_cross.k A__law_three_cross.b (takes_of rfl rfl rfl rfl) (sa_cons (se_sl (se_var 0 (pv 0)) (sp_some se_int) sp_none) (sa_cons (se_var 2 (pv 2)) sa_nil))) sa_nil))))))
abbrev s__law_axis_right : Stmt := top 50
abbrev N__law_axis_right : List Str := ["motion", "found", "told", "count", "numbers", "way", "turning", "step", "point", "fast", "number"]
theorem sc__law_axis_right : FnScope N__law_axis_right ["motion", "found", "told"] (defScope s__law_axis_right) := ⟨rfl, rfl, rfl, by decide +kernel, rfl, by decide +kernel, by decide +kernel⟩
abbrev P__law_axis_right : List Str := ["motion", "found", "told"]
theorem ok__law_axis_right (T : Tx mg) {f : Addr} {fd : FuncData} (A : At K mg "_law_axis_right" s__law_axis_right P__law_axis_right f fd) {f__law_three_is_row : Addr} {d__law_three_is_row : FuncData} (A__law_three_is_row : At K mg "_law_three_is_row" s__law_three_is_row P__law_three_is_row f__law_three_is_row d__law_three_is_row) (G__law_three_is_row : FnG P wd K mg base (L2.CX P wd) 1 f__law_three_is_row d__law_three_is_row P__law_three_is_row (spF K CA 2 fn__law_three_is_row)) {f__law_four_short : Addr} {d__law_four_short : FuncData} (A__law_four_short : At K mg "_law_four_short" s__law_four_short P__law_four_short f__law_four_short d__law_four_short) (G__law_four_short : FnG P wd K mg base (L2.CX P wd) 2 f__law_four_short d__law_four_short P__law_four_short (spF K CA 1 fn__law_four_short)) {f__law_like : Addr} {d__law_like : FuncData} (A__law_like : At K mg "_law_like" s__law_like P__law_like f__law_like d__law_like) (G__law_like : FnG P wd K mg base (L2.CX P wd) 1 f__law_like d__law_like P__law_like (spF K CA 2 fn__law_like)) {f__law_three_dot : Addr} {d__law_three_dot : FuncData} (A__law_three_dot : At K mg "_law_three_dot" s__law_three_dot P__law_three_dot f__law_three_dot d__law_three_dot) (G__law_three_dot : FnG P wd K mg base (L2.CX P wd) 1 f__law_three_dot d__law_three_dot P__law_three_dot (spF K CA 2 fn__law_three_dot)) {f__law_three_plus : Addr} {d__law_three_plus : FuncData} (A__law_three_plus : At K mg "_law_three_plus" s__law_three_plus P__law_three_plus f__law_three_plus d__law_three_plus) (G__law_three_plus : FnG P wd K mg base (L2.CX P wd) 1 f__law_three_plus d__law_three_plus P__law_three_plus (spF K CA 3 fn__law_three_plus)) {f__law_scaled : Addr} {d__law_scaled : FuncData} (A__law_scaled : At K mg "_law_scaled" s__law_scaled P__law_scaled f__law_scaled d__law_scaled) (G__law_scaled : FnG P wd K mg base (L2.CX P wd) 2 f__law_scaled d__law_scaled P__law_scaled (spF K CA 3 fn__law_scaled)) : FnG P wd K mg base (L2.CX P wd) 3 f fd P__law_axis_right (spF K CA 3 fn__law_axis_right) :=
  by rw [fn__law_axis_right_eq]; exact fn_okG (N := N__law_axis_right) (g := body__law_axis_right) A.F sc__law_axis_right (by decide) fun cdv Ar outer s H E hr hgd =>
  (ss_cons (s_if (PW.pt (sw_or (st_not (st_val (se_isi T.b_isinstance T.b_tuple boot_tuple' (se_var 1 (pv 1))))) (sw_or (st_cmp (cr_neD (hu64 hr)) (se_len T.b_len (sa_cons (se_var 1 (pv 1)) sa_nil)) se_int (nomark _)) (sw_or (st_not (st_val (se_fnG G__law_three_is_row (hr.mono (by decide)) hgd rfl A__law_three_is_row.m A__law_three_is_row.k A__law_three_is_row.b (takes_of rfl rfl rfl rfl) (sa_cons (se_tup (sa_cons (se_ix (se_var 1 (pv 1)) se_int) sa_nil)) (sa_cons se_int sa_nil))))) (sw_or1 (st_cmp cr_lt (se_ix (se_var 1 (pv 1)) se_int) se_int (nomark _)))))))
  (ss_one (s_ret se_bl))
  ss_nil)
  (ss_cons (s_asg (se_var 1 (pv 1)) (sg_tup (n := 3) rfl (sgs_cons (sg_name 3 (pg_name (i := 3) sc__law_axis_right.nd rfl (by first | exact Or.inl rfl | exact Or.inr rfl) (by first | exact Or.inl rfl | exact Or.inr rfl))) (sgs_cons (sg_name 4 (pg_name (i := 4) sc__law_axis_right.nd rfl (by first | exact Or.inl rfl | exact Or.inr rfl) (by first | exact Or.inl rfl | exact Or.inr rfl))) (sgs_cons (sg_name 5 (pg_name (i := 5) sc__law_axis_right.nd rfl (by first | exact Or.inl rfl | exact Or.inr rfl) (by first | exact Or.inl rfl | exact Or.inr rfl))) sgs_nil)))))
  (ss_cons (s_if (PW.pt (sw_or (st_not (st_val (se_fnG G__law_three_is_row (hr.mono (by decide)) hgd rfl A__law_three_is_row.m A__law_three_is_row.k A__law_three_is_row.b (takes_of rfl rfl rfl rfl) (sa_cons (se_var 4 (pv 4)) (sa_cons se_int sa_nil))))) (sw_or1 (st_cmp (cr_neD (hu64 hr)) (se_list T.b_list (sa_cons (se_add (se_tup (sa_cons (se_var 3 (pv 3)) sa_nil)) (se_var 4 (pv 4))) sa_nil)) (se_fnG G__law_four_short (hr.mono (by decide)) hgd rfl A__law_four_short.m A__law_four_short.k A__law_four_short.b (takes_of rfl rfl rfl rfl) (sa_cons (se_add (se_tup (sa_cons (se_var 3 (pv 3)) sa_nil)) (se_var 4 (pv 4))) sa_nil)) (nomark _)))))
  (ss_one (s_ret se_bl))
  ss_nil)
  (ss_cons (s_set 6 sc__law_axis_right.nd rfl (by first | exact Or.inl rfl | exact Or.inr rfl) (se_sl (se_var 0 (pv 0)) (sp_some se_int) sp_none))
  (ss_cons (s_if (st_not (st_val (se_fnG G__law_like (hr.mono (by decide)) hgd rfl A__law_like.m A__law_like.k A__law_like.b (takes_of rfl rfl rfl rfl) (sa_cons (se_var 5 (pv 5)) (sa_cons (se_tuple T.b_tuple (sa_cons (se_fnG G__law_four_short (hr.mono (by decide)) hgd rfl A__law_four_short.m A__law_four_short.k A__law_four_short.b (takes_of rfl rfl rfl rfl) (sa_cons (se_var 6 (pv 6)) sa_nil)) sa_nil)) sa_nil)))))
  (ss_one (s_ret se_bl))
  ss_nil)
  (ss_cons (s_if (st_cmp (cr_neD (hu64 hr)) (se_fnG G__law_three_dot (hr.mono (by decide)) hgd rfl A__law_three_dot.m A__law_three_dot.k A__law_three_dot.b (takes_of rfl rfl rfl rfl) (sa_cons (se_var 4 (pv 4)) (sa_cons (se_var 6 (pv 6)) sa_nil))) se_int (nomark _))
  (ss_one (s_ret se_bl))
  ss_nil)
  (ss_cons (s_if (PW.pt (sw_or (st_not (st_val (se_fnG G__law_three_is_row (hr.mono (by decide)) hgd rfl A__law_three_is_row.m A__law_three_is_row.k A__law_three_is_row.b (takes_of rfl rfl rfl rfl) (sa_cons (se_var 2 (pv 2)) (sa_cons se_int sa_nil))))) (sw_or (st_cmp cr_lt (se_ix (se_var 2 (pv 2)) se_int) se_int (nomark _)) (sw_or1 (st_cmp (cr_neD (hu64 hr)) (se_list T.b_list (sa_cons (se_var 2 (pv 2)) sa_nil)) (se_fnG G__law_four_short (hr.mono (by decide)) hgd rfl A__law_four_short.m A__law_four_short.k A__law_four_short.b (takes_of rfl rfl rfl rfl) (sa_cons (se_var 2 (pv 2)) sa_nil)) (nomark _))))))
  (ss_one (s_ret se_bl))
  ss_nil)
  (ss_cons (s_if (st_cmp (cr_neD (hu64 hr)) (se_mul (se_ix (se_var 2 (pv 2)) se_int) (se_fnG G__law_three_dot (hr.mono (by decide)) hgd rfl A__law_three_dot.m A__law_three_dot.k A__law_three_dot.b (takes_of rfl rfl rfl rfl) (sa_cons (se_var 6 (pv 6)) (sa_cons (se_var 6 (pv 6)) sa_nil)))) (se_mul (se_ix (se_var 2 (pv 2)) se_int) (se_fnG G__law_three_dot (hr.mono (by decide)) hgd rfl A__law_three_dot.m A__law_three_dot.k A__law_three_dot.b (takes_of rfl rfl rfl rfl) (sa_cons (se_sl (se_var 0 (pv 0)) sp_none (sp_some se_int)) (sa_cons (se_var 6 (pv 6)) sa_nil)))) (nomark _))
  (ss_one (s_ret se_bl))
  ss_nil)
  (ss_cons (s_for PassesOwn.leaving rfl (si_list (se_lst (sa_cons se_int (sa_cons se_int (sa_cons (se_neg se_int) sa_nil))))) (sg_name 7 (pg_name (i := 7) sc__law_axis_right.nd rfl (by first | exact Or.inl rfl | exact Or.inr rfl) (by first | exact Or.inl rfl | exact Or.inr rfl)))
  (ss_cons (s_set 8 sc__law_axis_right.nd rfl (by first | exact Or.inl rfl | exact Or.inr rfl) (se_fnG G__law_three_plus (hr.mono (by decide)) hgd rfl A__law_three_plus.m A__law_three_plus.k A__law_three_plus.b (takes_of rfl rfl rfl rfl) (sa_cons (se_var 4 (pv 4)) (sa_cons (se_mul (se_var 7 (pv 7)) (se_var 3 (pv 3))) (sa_cons (se_var 5 (pv 5)) sa_nil)))))
  (ss_cons (s_set 9 sc__law_axis_right.nd rfl (by first | exact Or.inl rfl | exact Or.inr rfl) (se_fnG G__law_scaled (hr.mono (by decide)) hgd rfl A__law_scaled.m A__law_scaled.k A__law_scaled.b (takes_of rfl rfl rfl rfl) (sa_cons (se_var 0 (pv 0)) (sa_cons (se_var 3 (pv 3)) (sa_cons (se_var 8 (pv 8)) sa_nil)))))
  (ss_one (s_if (st_cmp (cr_neD (hu64 hr)) (se_lc (own := [("number", 10)]) rfl sc__law_axis_right.nd (si_seq (se_var 9 (pv 9))) (blkOk_by (own := [("number", 10)]) (N := N__law_axis_right) (sc := defScope s__law_axis_right) (by decide +kernel)) (fun _ _ _ _ _ => (pg_name (i := 10) sc__law_axis_right.nd rfl (by first | exact Or.inl rfl | exact Or.inr rfl) (by first | exact Or.inl rfl | exact Or.inr rfl))) (gx_name _ 10 (by decide)) (fun _ _ _ _ _ => sts_nil) (fun _ _ _ _ _ => (se_mul (se_ix (se_var 2 (pv 2)) se_int) (se_var 10 (pv 10))))) (se_lc (own := [("number", 10)]) rfl sc__law_axis_right.nd (si_seq (se_var 6 (pv 6))) (blkOk_by (own := [("number", 10)]) (N := N__law_axis_right) (sc := defScope s__law_axis_right) (by decide +kernel)) (fun _ _ _ _ _ => (pg_name (i := 10) sc__law_axis_right.nd rfl (by first | exact Or.inl rfl | exact Or.inr rfl) (by first | exact Or.inl rfl | exact Or.inr rfl))) (gx_name _ 10 (by decide)) (fun _ _ _ _ _ => sts_nil) (fun _ _ _ _ _ => (se_mul (se_mul (se_ix (se_var 2 (pv 2)) se_int) (se_var 3 (pv 3))) (se_var 10 (pv 10))))) (nomark _))
  (ss_one (s_ret se_bl))
  ss_nil)))))
  (ss_one (s_ret se_bl)))))))))))
abbrev s__law_heard : Stmt := top 52
abbrev N__law_heard : List Str := ["kind", "motion", "told", "e"]
def body__law_heard : SF := (sSeq (sSet 2 (eC (.str "nothing")))
  (sSeq (sTryAs "BadRow" [] 3
  (sIf (tOf (eOp (gEqD false) (eVar 0) (eC (.int 0))))
  (sExpr (eFn 1 fn_axis (aCons (eVar 1) aNil)))
  (sExpr (eFn 1 fn_pitch (aCons (eVar 1) aNil))))
  (fun fs => (sSet 2 (eTup (aCons (eXf fs "index") (aCons (eC (.bl true)) aNil))))))
  (sRet (eVar 2))))
def fn__law_heard : Fn := runDef 4 body__law_heard
theorem sc__law_heard : FnScope N__law_heard ["kind", "motion"] (defScope s__law_heard) := ⟨rfl, rfl, rfl, by decide +kernel, rfl, by decide +kernel, by decide +kernel⟩
abbrev P__law_heard : List Str := ["kind", "motion"]
theorem ok__law_heard (T : Tx mg) {f : Addr} {fd : FuncData} (A : At K mg "_law_heard" s__law_heard P__law_heard f fd) {f_axis : Addr} {d_axis : FuncData} (A_axis : At K mg "axis" s_axis P_axis f_axis d_axis) (G_axis : FnG P wd K mg base (L2.CX P wd) 4 f_axis d_axis P_axis (spF K CA 1 fn_axis)) {f_pitch : Addr} {d_pitch : FuncData} (A_pitch : At K mg "pitch" s_pitch P_pitch f_pitch d_pitch) (G_pitch : FnG P wd K mg base (L2.CX P wd) 4 f_pitch d_pitch P_pitch (spF K CA 1 fn_pitch)) {fI_BadRow : Addr} {dI_BadRow : FuncData} (E_BadRow : ErrC P wd K mg base CA "BadRow" fI_BadRow dI_BadRow ["self", "index"] fun C => spI1 C "index") (N_BadRow_index : PySem.W.findIn K (.ref (CA "BadRow")) "index" = some none) (I_BadRow_BodyError : IsiC K mg CA "BadRow" "BodyError") : FnG P wd K mg base (L2.CX P wd) 5 f fd P__law_heard (spF K CA 2 fn__law_heard) :=
  fn_okG (N := N__law_heard) (g := body__law_heard) A.F sc__law_heard (by decide) fun cdv Ar outer s H E hr hgd =>
  (ss_cons (s_set 2 sc__law_heard.nd rfl (by first | exact Or.inl rfl | exact Or.inr rfl) se_str)
  (ss_cons (s_tryAs (n := "e") rfl rfl sc__law_heard.nd rfl rfl ⟨rfl, by decide, .inl E_BadRow.m⟩ (takes_of rfl rfl rfl rfl) E_BadRow.te (fun _ h => nomatch h) rfl (fun W pn xe tk po => (ss_one (s_if (st_cmp (cr_eqD (hu64 hr)) (se_var 0 (pv 0)) se_int (nomark _))
  (ss_one (s_expr (se_fnG G_axis (hr.mono (by decide)) hgd rfl A_axis.m A_axis.k A_axis.b tk (sa_cons (se_var 1 (pv 1)) sa_nil))))
  (ss_one (s_expr (se_fnG G_pitch (hr.mono (by decide)) hgd rfl A_pitch.m A_pitch.k A_pitch.b tk (sa_cons (se_var 1 (pv 1)) sa_nil))))))) (fun a oe cls d pn fs hz hv => js_one (j_set 2 sc__law_heard.nd rfl (by first | exact Or.inl rfl | exact Or.inr rfl) (je_tup (ja_cons (je_xf (J := ⟨a, 3, cls, d, "BadRow", fs⟩) E_BadRow.xf N_BadRow_index hz hv (pv 3)) (ja_cons (je_isi (J := ⟨a, 3, cls, d, "BadRow", fs⟩) E_BadRow I_BadRow_BodyError T.b_isinstance hz hv (pv 3)) ja_nil))))))
  (ss_one (s_ret (se_var 2 (pv 2))))))
abbrev s_velocity : Stmt := top 28
abbrev N_velocity : List Str := ["dimension", "motion", "place"]
theorem sc_velocity : FnScope N_velocity ["dimension", "motion", "place"] (defScope s_velocity) := ⟨rfl, rfl, rfl, by decide +kernel, rfl, by decide +kernel, by decide +kernel⟩
abbrev P_velocity : List Str := ["dimension", "motion", "place"]
theorem ok_velocity (T : Tx mg) {f : Addr} {fd : FuncData} (A : At K mg "velocity" s_velocity P_velocity f fd) {f_need_row : Addr} {d_need_row : FuncData} (A_need_row : At K mg "need_row" s_need_row P_need_row f_need_row d_need_row) (G_need_row : FnG P wd K mg base (L2.CX P wd) 3 f_need_row d_need_row P_need_row (spF K CA 3 fn_need_row)) {f_need_space : Addr} {d_need_space : FuncData} (A_need_space : At K mg "need_space" s_need_space P_need_space f_need_space d_need_space) (G_need_space : FnG P wd K mg base (L2.CX P wd) 3 f_need_space d_need_space P_need_space (spF K CA 1 fn_need_space)) {f_need_place_at : Addr} {d_need_place_at : FuncData} (A_need_place_at : At K mg "need_place_at" s_need_place_at P_need_place_at f_need_place_at d_need_place_at) (G_need_place_at : FnG P wd K mg base (L2.CX P wd) 3 f_need_place_at d_need_place_at P_need_place_at (spF K CA 3 fn_need_place_at)) {f_velocity_by : Addr} {d_velocity_by : FuncData} (A_velocity_by : At K mg "velocity_by" s_velocity_by P_velocity_by f_velocity_by d_velocity_by) (G_velocity_by : FnG P wd K mg base (L2.CX P wd) 2 f_velocity_by d_velocity_by P_velocity_by (spF K CA 2 fn_velocity_by)) : FnG P wd K mg base (L2.CX P wd) 4 f fd P_velocity (spF K CA 3 fn_velocity) :=
  by rw [fn_velocity_eq]; exact fn_okG (N := N_velocity) (g := body_velocity) A.F sc_velocity (by decide) fun cdv Ar outer s H E hr hgd =>
  (ss_cons (s_expr (se_fnG G_need_row (hr.mono (by decide)) hgd rfl A_need_row.m A_need_row.k A_need_row.b (takes_of rfl rfl rfl rfl) (sa_cons (se_var 1 (pv 1)) (sa_cons (se_fnG G_need_space (hr.mono (by decide)) hgd rfl A_need_space.m A_need_space.k A_need_space.b (takes_of rfl rfl rfl rfl) (sa_cons (se_var 0 (pv 0)) sa_nil)) (sa_cons se_int sa_nil)))))
  (ss_cons (s_expr (se_fnG G_need_place_at (hr.mono (by decide)) hgd rfl A_need_place_at.m A_need_place_at.k A_need_place_at.b (takes_of rfl rfl rfl rfl) (sa_cons (se_var 0 (pv 0)) (sa_cons (se_var 2 (pv 2)) (sa_cons (se_neg se_int) sa_nil)))))
  (ss_one (s_ret (se_fnG G_velocity_by (hr.mono (by decide)) hgd rfl A_velocity_by.m A_velocity_by.k A_velocity_by.b (takes_of rfl rfl rfl rfl) (sa_cons (se_var 1 (pv 1)) (sa_cons (se_var 2 (pv 2)) sa_nil)))))))
abbrev s__law_beside_right : Stmt := top 51
abbrev N__law_beside_right : List Str := ["m", "motion", "told", "turning", "turn", "place", "fast", "is_on", "more"]
def body__law_beside_right : SF := (sSeq (sSet 3 (eSl (eVar 1) (pSome (eC (.int 3))) pNone))
  (sSeq (sFor (iR1 (aCons (eC (.int 3)) aNil)) (gN 4)
  (sSeq (sSet 5 (eFn 3 fn__law_four_place (aCons (eVar 0) (aCons (eC (.int 6)) (aCons (eFn 2 fn__law_of (aCons (eVar 0) (aCons (eLst (aCons (eC (.int 1)) (aCons (eC (.int 5)) (aCons (eOp gPow (eC (.int 10)) (eC (.int 6))) aNil)))) aNil))) aNil)))))
  (sSeq (sSet 6 (eFn 3 fn_velocity (aCons (eC (.int 6)) (aCons (eVar 1) (aCons (eVar 5) aNil)))))
  (sSeq (sIf (fNot (tOf (eFn 2 fn__law_like (aCons (eVar 6) (aCons (eFn 3 fn__law_scaled (aCons (eVar 1) (aCons (eC (.int 1)) (aCons (eVar 5) aNil)))) aNil)))))
  (sRet (eC (.bl false)))
  sNil)
  (sSeq (sSet 7 (eOp (gEqD false) (eFn 2 fn__law_three_cross (aCons (eVar 3) (aCons (eVar 6) aNil))) (eTup (aCons (eC (.int 0)) (aCons (eC (.int 0)) (aCons (eC (.int 0)) aNil))))))
  (sSeq (sSet 8 (eOp gSub (eOp gMul (eOp gPow (eOp gIx (eVar 2) (eC (.int 1))) (eC (.int 2))) (eFn 2 fn__law_three_dot (aCons (eVar 6) (aCons (eVar 6) aNil)))) (eOp gMul (eOp gPow (eOp gIx (eVar 2) (eC (.int 0))) (eC (.int 2))) (eFn 2 fn__law_three_dot (aCons (eVar 3) (aCons (eVar 3) aNil))))))
  (sIf (fOr (tOf (eOp gLt (eVar 8) (eC (.int 0)))) (tOf (eOp (gEqD true) (eOp (gEqD false) (eVar 8) (eC (.int 0))) (eVar 7))))
  (sRet (eC (.bl false)))
  sNil)))))))
  (sRet (eC (.bl true)))))
def fn__law_beside_right : Fn := runDef 9 body__law_beside_right
theorem sc__law_beside_right : FnScope N__law_beside_right ["m", "motion", "told"] (defScope s__law_beside_right) := ⟨rfl, rfl, rfl, by decide +kernel, rfl, by decide +kernel, by decide +kernel⟩
abbrev P__law_beside_right : List Str := ["m", "motion", "told"]
theorem ok__law_beside_right (T : Tx mg) {f : Addr} {fd : FuncData} (A : At K mg "_law_beside_right" s__law_beside_right P__law_beside_right f fd) {f__law_four_place : Addr} {d__law_four_place : FuncData} (A__law_four_place : At K mg "_law_four_place" s__law_four_place P__law_four_place f__law_four_place d__law_four_place) (G__law_four_place : FnG P wd K mg base (L2.CX P wd) 3 f__law_four_place d__law_four_place P__law_four_place (spF K CA 3 fn__law_four_place)) {f__law_of : Addr} {d__law_of : FuncData} (A__law_of : At K mg "_law_of" s__law_of P__law_of f__law_of d__law_of) (G__law_of : FnG P wd K mg base (L2.CX P wd) 3 f__law_of d__law_of P__law_of (spF K CA 2 fn__law_of)) {f_velocity : Addr} {d_velocity : FuncData} (A_velocity : At K mg "velocity" s_velocity P_velocity f_velocity d_velocity) (G_velocity : FnG P wd K mg base (L2.CX P wd) 4 f_velocity d_velocity P_velocity (spF K CA 3 fn_velocity)) {f__law_like : Addr} {d__law_like : FuncData} (A__law_like : At K mg "_law_like" s__law_like P__law_like f__law_like d__law_like) (G__law_like : FnG P wd K mg base (L2.CX P wd) 1 f__law_like d__law_like P__law_like (spF K CA 2 fn__law_like)) {f__law_scaled : Addr} {d__law_scaled : FuncData} (A__law_scaled : At K mg "_law_scaled" s__law_scaled P__law_scaled f__law_scaled d__law_scaled) (G__law_scaled : FnG P wd K mg base (L2.CX P wd) 2 f__law_scaled d__law_scaled P__law_scaled (spF K CA 3 fn__law_scaled)) {f__law_three_cross : Addr} {d__law_three_cross : FuncData} (A__law_three_cross : At K mg "_law_three_cross" s__law_three_cross P__law_three_cross f__law_three_cross d__law_three_cross) (G__law_three_cross : FnG P wd K mg base (L2.CX P wd) 1 f__law_three_cross d__law_three_cross P__law_three_cross (spF K CA 2 fn__law_three_cross)) {f__law_three_dot : Addr} {d__law_three_dot : FuncData} (A__law_three_dot : At K mg "_law_three_dot" s__law_three_dot P__law_three_dot f__law_three_dot d__law_three_dot) (G__law_three_dot : FnG P wd K mg base (L2.CX P wd) 1 f__law_three_dot d__law_three_dot P__law_three_dot (spF K CA 2 fn__law_three_dot)) : FnG P wd K mg base (L2.CX P wd) 5 f fd P__law_beside_right (spF K CA 3 fn__law_beside_right) :=
  fn_okG (N := N__law_beside_right) (g := body__law_beside_right) A.F sc__law_beside_right (by decide) fun cdv Ar outer s H E hr hgd =>
  (ss_cons (s_set 3 sc__law_beside_right.nd rfl (by first | exact Or.inl rfl | exact Or.inr rfl) (se_sl (se_var 1 (pv 1)) (sp_some se_int) sp_none))
  (ss_cons (s_for PassesOwn.leaving rfl (si_r1 T.b_range (sa_cons se_int sa_nil)) (sg_name 4 (pg_name (i := 4) sc__law_beside_right.nd rfl (by first | exact Or.inl rfl | exact Or.inr rfl) (by first | exact Or.inl rfl | exact Or.inr rfl)))
  (ss_cons (s_set 5 sc__law_beside_right.nd rfl (by first | exact Or.inl rfl | exact Or.inr rfl) (se_fnG G__law_four_place (hr.mono (by decide)) hgd rfl A__law_four_place.m A__law_four_place.k A__law_four_place.b (takes_of rfl rfl rfl rfl) (sa_cons (se_var 0 (pv 0)) (sa_cons se_int (sa_cons (se_fnG G__law_of (hr.mono (by decide)) hgd rfl A__law_of.m A__law_of.k A__law_of.b (takes_of rfl rfl rfl rfl) (sa_cons (se_var 0 (pv 0)) (sa_cons (se_lst (sa_cons se_int (sa_cons se_int (sa_cons (se_pow se_int se_int) sa_nil)))) sa_nil))) sa_nil)))))
  (ss_cons (s_set 6 sc__law_beside_right.nd rfl (by first | exact Or.inl rfl | exact Or.inr rfl) (se_fnG G_velocity (hr.mono (by decide)) hgd rfl A_velocity.m A_velocity.k A_velocity.b (takes_of rfl rfl rfl rfl) (sa_cons se_int (sa_cons (se_var 1 (pv 1)) (sa_cons (se_var 5 (pv 5)) sa_nil)))))
  (ss_cons (s_if (st_not (st_val (se_fnG G__law_like (hr.mono (by decide)) hgd rfl A__law_like.m A__law_like.k A__law_like.b (takes_of rfl rfl rfl rfl) (sa_cons (se_var 6 (pv 6)) (sa_cons (se_fnG G__law_scaled (hr.mono (by decide)) hgd rfl A__law_scaled.m A__law_scaled.k A__law_scaled.b (takes_of rfl rfl rfl rfl) (sa_cons (se_var 1 (pv 1)) (sa_cons se_int (sa_cons (se_var 5 (pv 5)) sa_nil)))) sa_nil)))))
  (ss_one (s_ret se_bl))
  ss_nil)
  (ss_cons (s_set 7 sc__law_beside_right.nd rfl (by first | exact Or.inl rfl | exact Or.inr rfl) (se_cmp (cr_eqD (hu64 hr)) (se_fnG G__law_three_cross (hr.mono (by decide)) hgd rfl A__law_three_cross.m A__law_three_cross.k A__law_three_cross.b (takes_of rfl rfl rfl rfl) (sa_cons (se_var 3 (pv 3)) (sa_cons (se_var 6 (pv 6)) sa_nil))) (se_tup (sa_cons se_int (sa_cons se_int (sa_cons se_int sa_nil)))) (nomark _)))
  (ss_cons (s_set 8 sc__law_beside_right.nd rfl (by first | exact Or.inl rfl | exact Or.inr rfl) (se_sub (se_mul (se_pow (se_ix (se_var 2 (pv 2)) se_int) se_int) (se_fnG G__law_three_dot (hr.mono (by decide)) hgd rfl A__law_three_dot.m A__law_three_dot.k A__law_three_dot.b (takes_of rfl rfl rfl rfl) (sa_cons (se_var 6 (pv 6)) (sa_cons (se_var 6 (pv 6)) sa_nil)))) (se_mul (se_pow (se_ix (se_var 2 (pv 2)) se_int) se_int) (se_fnG G__law_three_dot (hr.mono (by decide)) hgd rfl A__law_three_dot.m A__law_three_dot.k A__law_three_dot.b (takes_of rfl rfl rfl rfl) (sa_cons (se_var 3 (pv 3)) (sa_cons (se_var 3 (pv 3)) sa_nil))))))
  (ss_one (s_if (PW.pt (sw_or (st_cmp cr_lt (se_var 8 (pv 8)) se_int (nomark _)) (sw_or1 (st_cmp (cr_neD (hu64 hr)) (se_cmp (cr_eqD (hu64 hr)) (se_var 8 (pv 8)) se_int (nomark _)) (se_var 7 (pv 7)) (nomark _)))))
  (ss_one (s_ret se_bl))
  ss_nil))))))))
  (ss_one (s_ret se_bl))))
abbrev s_law : Stmt := top 53
abbrev N_law : List Str := ["script", "m", "turn", "motion", "found", "told", "wrong"]
def body_law : SF := (sSeq (sSet 1 (eFn 1 fn__law_begun (aCons (eVar 0) aNil)))
  (sSeq (sFor (iR1 (aCons (eC (.int 2)) aNil)) (gN 2)
  (sSeq (sSet 3 (eFn 1 fn__law_motion (aCons (eVar 1) aNil)))
  (sSeq (sPar 4 5 (aCons (eFn 1 fn_axis (aCons (eVar 3) aNil)) (aCons (eFn 1 fn_pitch (aCons (eVar 3) aNil)) aNil)))
  (sSeq (sIf (tOf (eOp (gEqD false) (eSl (eVar 3) (pSome (eC (.int 3))) pNone) (eTup (aCons (eC (.int 0)) (aCons (eC (.int 0)) (aCons (eC (.int 0)) aNil))))))
  (sIf (fNot (tOf (eFn 2 fn__law_like (aCons (eLst (aCons (eVar 4) (aCons (eVar 5) aNil))) (aCons (eLst (aCons (eC .non) (aCons (eC .non) aNil))) aNil)))))
  (sRet (eC (.bl false)))
  sNil)
  (sIf (fOr (fNot (tOf (eFn 3 fn__law_axis_right (aCons (eVar 3) (aCons (eVar 4) (aCons (eVar 5) aNil)))))) (fNot (tOf (eFn 3 fn__law_beside_right (aCons (eVar 1) (aCons (eVar 3) (aCons (eVar 5) aNil)))))))
  (sRet (eC (.bl false)))
  sNil))
  (sSeq (sSet 6 (eFn 2 fn__law_three_bad (aCons (eVar 1) (aCons (eVar 3) aNil))))
  (sIf (fNot (tOf (eFn 2 fn__law_like (aCons (eLst (aCons (eFn 2 fn__law_heard (aCons (eC (.int 0)) (aCons (eVar 6) aNil))) (aCons (eFn 2 fn__law_heard (aCons (eC (.int 1)) (aCons (eVar 6) aNil))) aNil))) (aCons (eLst (aCons (eTup (aCons (eC (.int 0)) (aCons (eC (.bl true)) aNil))) (aCons (eTup (aCons (eC (.int 0)) (aCons (eC (.bl true)) aNil))) aNil))) aNil)))))
  (sRet (eC (.bl false)))
  sNil))))))
  (sRet (eC (.bl true)))))
def fn_law : Fn := runDef 7 body_law
theorem sc_law : FnScope N_law ["script"] (defScope s_law) := ⟨rfl, rfl, rfl, by decide +kernel, rfl, by decide +kernel, by decide +kernel⟩
abbrev P_law : List Str := ["script"]
theorem ok_law (T : Tx mg) {f : Addr} {fd : FuncData} (A : At K mg "law" s_law P_law f fd) {f__law_begun : Addr} {d__law_begun : FuncData} (A__law_begun : At K mg "_law_begun" s__law_begun P__law_begun f__law_begun d__law_begun) (G__law_begun : FnG P wd K mg base (L2.CX P wd) 2 f__law_begun d__law_begun P__law_begun (spF K CA 1 fn__law_begun)) {f__law_motion : Addr} {d__law_motion : FuncData} (A__law_motion : At K mg "_law_motion" s__law_motion P__law_motion f__law_motion d__law_motion) (G__law_motion : FnG P wd K mg base (L2.CX P wd) 4 f__law_motion d__law_motion P__law_motion (spF K CA 1 fn__law_motion)) {f_pitch : Addr} {d_pitch : FuncData} (A_pitch : At K mg "pitch" s_pitch P_pitch f_pitch d_pitch) (G_pitch : FnG P wd K mg base (L2.CX P wd) 4 f_pitch d_pitch P_pitch (spF K CA 1 fn_pitch)) {f_axis : Addr} {d_axis : FuncData} (A_axis : At K mg "axis" s_axis P_axis f_axis d_axis) (G_axis : FnG P wd K mg base (L2.CX P wd) 4 f_axis d_axis P_axis (spF K CA 1 fn_axis)) {f__law_like : Addr} {d__law_like : FuncData} (A__law_like : At K mg "_law_like" s__law_like P__law_like f__law_like d__law_like) (G__law_like : FnG P wd K mg base (L2.CX P wd) 1 f__law_like d__law_like P__law_like (spF K CA 2 fn__law_like)) {f__law_axis_right : Addr} {d__law_axis_right : FuncData} (A__law_axis_right : At K mg "_law_axis_right" s__law_axis_right P__law_axis_right f__law_axis_right d__law_axis_right) (G__law_axis_right : FnG P wd K mg base (L2.CX P wd) 3 f__law_axis_right d__law_axis_right P__law_axis_right (spF K CA 3 fn__law_axis_right)) {f__law_beside_right : Addr} {d__law_beside_right : FuncData} (A__law_beside_right : At K mg "_law_beside_right" s__law_beside_right P__law_beside_right f__law_beside_right d__law_beside_right) (G__law_beside_right : FnG P wd K mg base (L2.CX P wd) 5 f__law_beside_right d__law_beside_right P__law_beside_right (spF K CA 3 fn__law_beside_right)) {f__law_three_bad : Addr} {d__law_three_bad : FuncData} (A__law_three_bad : At K mg "_law_three_bad" s__law_three_bad P__law_three_bad f__law_three_bad d__law_three_bad) (G__law_three_bad : FnG P wd K mg base (L2.CX P wd) 4 f__law_three_bad d__law_three_bad P__law_three_bad (spF K CA 2 fn__law_three_bad)) {f__law_heard : Addr} {d__law_heard : FuncData} (A__law_heard : At K mg "_law_heard" s__law_heard P__law_heard f__law_heard d__law_heard) (G__law_heard : FnG P wd K mg base (L2.CX P wd) 5 f__law_heard d__law_heard P__law_heard (spF K CA 2 fn__law_heard)) : FnG P wd K mg base (L2.CX P wd) 6 f fd P_law (spF K CA 1 fn_law) :=
  fn_okG (N := N_law) (g := body_law) A.F sc_law (by decide) fun cdv Ar outer s H E hr hgd =>
  (ss_cons (s_set 1 sc_law.nd rfl (by first | exact Or.inl rfl | exact Or.inr rfl) (se_fnG G__law_begun (hr.mono (by decide)) hgd rfl A__law_begun.m A__law_begun.k A__law_begun.b (takes_of rfl rfl rfl rfl) (sa_cons (se_var 0 (pv 0)) sa_nil)))
  (ss_cons (s_for PassesOwn.leaving rfl (si_r1 T.b_range (sa_cons se_int sa_nil)) (sg_name 2 (pg_name (i := 2) sc_law.nd rfl (by first | exact Or.inl rfl | exact Or.inr rfl) (by first | exact Or.inl rfl | exact Or.inr rfl)))
  (ss_cons (s_set 3 sc_law.nd rfl (by first | exact Or.inl rfl | exact Or.inr rfl) (se_fnG G__law_motion (hr.mono (by decide)) hgd rfl A__law_motion.m A__law_motion.k A__law_motion.b (takes_of rfl rfl rfl rfl) (sa_cons (se_var 1 (pv 1)) sa_nil)))
  (ss_cons (s_par rfl sc_law.nd rfl rfl (by decide) rfl rfl (sa_cons (se_fnG G_axis (hr.mono (by decide)) hgd rfl A_axis.m A_axis.k A_axis.b (takes_of rfl rfl rfl rfl) (sa_cons (se_var 3 (pv 3)) sa_nil)) (sa_cons (se_fnG G_pitch (hr.mono (by decide)) hgd rfl A_pitch.m A_pitch.k A_pitch.b (takes_of rfl rfl rfl rfl) (sa_cons (se_var 3 (pv 3)) sa_nil)) sa_nil)) (by rfl))
  (ss_cons (s_if (st_cmp (cr_eqD (hu64 hr)) (se_sl (se_var 3 (pv 3)) (sp_some se_int) sp_none) (se_tup (sa_cons se_int (sa_cons se_int (sa_cons se_int sa_nil)))) (nomark _))
  (ss_one (s_if (st_not (st_val (se_fnG G__law_like (hr.mono (by decide)) hgd rfl A__law_like.m A__law_like.k A__law_like.b (takes_of rfl rfl rfl rfl) (sa_cons (se_lst (sa_cons (se_var 4 (pv 4)) (sa_cons (se_var 5 (pv 5)) sa_nil))) (sa_cons (se_lst (sa_cons se_non (sa_cons se_non sa_nil))) sa_nil)))))
  (ss_one (s_ret se_bl))
  ss_nil))
  (ss_one (s_if (PW.pt (sw_or (st_not (st_val (se_fnG G__law_axis_right (hr.mono (by decide)) hgd rfl A__law_axis_right.m A__law_axis_right.k A__law_axis_right.b (takes_of rfl rfl rfl rfl) (sa_cons (se_var 3 (pv 3)) (sa_cons (se_var 4 (pv 4)) (sa_cons (se_var 5 (pv 5)) sa_nil)))))) (sw_or1 (st_not (st_val (se_fnG G__law_beside_right (hr.mono (by decide)) hgd rfl A__law_beside_right.m A__law_beside_right.k A__law_beside_right.b (takes_of rfl rfl rfl rfl) (sa_cons (se_var 1 (pv 1)) (sa_cons (se_var 3 (pv 3)) (sa_cons (se_var 5 (pv 5)) sa_nil)))))))))
  (ss_one (s_ret se_bl))
  ss_nil)))
  (ss_cons (s_set 6 sc_law.nd rfl (by first | exact Or.inl rfl | exact Or.inr rfl) (se_fnG G__law_three_bad (hr.mono (by decide)) hgd rfl A__law_three_bad.m A__law_three_bad.k A__law_three_bad.b (takes_of rfl rfl rfl rfl) (sa_cons (se_var 1 (pv 1)) (sa_cons (se_var 3 (pv 3)) sa_nil))))
  (ss_one (s_if (st_not (st_val (se_fnG G__law_like (hr.mono (by decide)) hgd rfl A__law_like.m A__law_like.k A__law_like.b (takes_of rfl rfl rfl rfl) (sa_cons (se_lst (sa_cons (se_fnG G__law_heard (hr.mono (by decide)) hgd rfl A__law_heard.m A__law_heard.k A__law_heard.b (takes_of rfl rfl rfl rfl) (sa_cons se_int (sa_cons (se_var 6 (pv 6)) sa_nil))) (sa_cons (se_fnG G__law_heard (hr.mono (by decide)) hgd rfl A__law_heard.m A__law_heard.k A__law_heard.b (takes_of rfl rfl rfl rfl) (sa_cons se_int (sa_cons (se_var 6 (pv 6)) sa_nil))) sa_nil))) (sa_cons (se_lst (sa_cons (se_tup (sa_cons se_int (sa_cons se_bl sa_nil))) (sa_cons (se_tup (sa_cons se_int (sa_cons se_bl sa_nil))) sa_nil))) sa_nil)))))
  (ss_one (s_ret se_bl))
  ss_nil)))))))
  (ss_one (s_ret se_bl))))
end
theorem law_true (ns : List Int) (h : ns.length ≤ 63) : ∃ S', fn_law [.ob 0] [.frz (ns.map D.int)] = .ok (.bl true) S' := k21_law axis_ok pitch_ok velocity_ok ns h

abbrev sI_BadPlace : Stmt := inClass (top 6) 0
theorem scI_BadPlace : FnScope ["self", "index"] ["self", "index"] (defScope sI_BadPlace) := ⟨rfl, rfl, rfl, by decide +kernel, rfl, by decide +kernel, by decide +kernel⟩
theorem init_BadPlace {P : Program} {wd : World} {K : PySem.W.Frag} {mg : Str → Option Value} {base : Heap} {C fI : Addr} {fd : FuncData} (F : Fun K "__init__" "BadPlace.__init__" sI_BadPlace fI fd) (ox : OexC K C) (n0 : PySem.W.findIn K (.ref C) "index" = some none) : FnOk P wd K mg base CX0 1 fI fd ["self", "index"] (spI1 C "index") := by
  refine F.ok scI_BadPlace (fun vs H Q E h => by obtain ⟨a, y, rfl, _⟩ := h; rfl) fun cdv A outer s H vs Q E hr h => ?_
  obtain ⟨a, y, rfl, ha, k⟩ := h
  exact ⟨_, pss_one (ps_ost (pv 0) (pv 1)), ⟨y, rfl, _, rfl, a, C, rfl, ox, n0, .inl ⟨ha, fun dx h1 h2 => k dx h1 h2⟩⟩⟩
abbrev sI_BadRow : Stmt := inClass (top 5) 0
theorem scI_BadRow : FnScope ["self", "index"] ["self", "index"] (defScope sI_BadRow) := ⟨rfl, rfl, rfl, by decide +kernel, rfl, by decide +kernel, by decide +kernel⟩
theorem init_BadRow {P : Program} {wd : World} {K : PySem.W.Frag} {mg : Str → Option Value} {base : Heap} {C fI : Addr} {fd : FuncData} (F : Fun K "__init__" "BadRow.__init__" sI_BadRow fI fd) (ox : OexC K C) (n0 : PySem.W.findIn K (.ref C) "index" = some none) : FnOk P wd K mg base CX0 1 fI fd ["self", "index"] (spI1 C "index") := by
  refine F.ok scI_BadRow (fun vs H Q E h => by obtain ⟨a, y, rfl, _⟩ := h; rfl) fun cdv A outer s H vs Q E hr h => ?_
  obtain ⟨a, y, rfl, ha, k⟩ := h
  exact ⟨_, pss_one (ps_ost (pv 0) (pv 1)), ⟨y, rfl, _, rfl, a, C, rfl, ox, n0, .inl ⟨ha, fun dx h1 h2 => k dx h1 h2⟩⟩⟩
theorem exm_self {K : PySem.W.Frag} {S : Addr} (h1 : PySem.W.subIn K (.ref S) (.type "BaseException") = some true) (h3 : PySem.W.typeIn K (.ref S) = some (.type "type")) (h5 : PySem.W.hasDictIn K S = true) (h4 : PySem.W.subIn K (.ref S) (.ref S) = some true) :
    PySem.W.exmOne K (.ref S) (.ref S) = some true := PySem.W.exm_ref h1 h5 h3 h4
def caOf (C_BadPlace C_BadRow : Addr) : ClsAt := fun c => if c = "BadPlace" then C_BadPlace else if c = "BadRow" then C_BadRow else 0
theorem all_mk {l : PySem.W.OpenLaw} {w : World} {K : PySem.W.Frag} {h : Heap} {mg : Str → Option Value} {fa : Addr} (X : K.In h) (G : h.Ns mainGlobals mg) (hfa : mg "law" = some (.ref fa)) (HT : ∀ y ∈ ((["are_integers", "is_place"]) : List Str), ∃ c P, TabRec mg h y c P)
        {f_is_whole : Addr} {od_is_whole an_is_whole : Option Addr} {sl_is_whole : Array (Option Value)} {oc_is_whole kV_is_whole dc_is_whole pm_is_whole cd_is_whole ct_is_whole : Value}
    (a_is_whole : PySem.W.nsIn K mainGlobals "is_whole" = some (some (.ref f_is_whole)))
    (l_is_whole : K.lookup f_is_whole = some ⟨oc_is_whole, od_is_whole, .func (PySem.W.fnOf "is_whole" "is_whole" (defArgs s_is_whole) (defBody s_is_whole) (defScope s_is_whole) .none kV_is_whole dc_is_whole pm_is_whole an_is_whole cd_is_whole ct_is_whole), sl_is_whole⟩)
    (c_is_whole : PySem.W.codeIn K cd_is_whole "is_whole" = true)
    (k_is_whole : PySem.W.keepIn K (.ref f_is_whole) = true)
    {f_is_row : Addr} {od_is_row an_is_row : Option Addr} {sl_is_row : Array (Option Value)} {oc_is_row kV_is_row dc_is_row pm_is_row cd_is_row ct_is_row : Value}
    (a_is_row : PySem.W.nsIn K mainGlobals "is_row" = some (some (.ref f_is_row)))
    (l_is_row : K.lookup f_is_row = some ⟨oc_is_row, od_is_row, .func (PySem.W.fnOf "is_row" "is_row" (defArgs s_is_row) (defBody s_is_row) (defScope s_is_row) .none kV_is_row dc_is_row pm_is_row an_is_row cd_is_row ct_is_row), sl_is_row⟩)
    (c_is_row : PySem.W.codeIn K cd_is_row "is_row" = true)
    (k_is_row : PySem.W.keepIn K (.ref f_is_row) = true)
    {f_are_integers : Addr} {od_are_integers an_are_integers : Option Addr} {sl_are_integers : Array (Option Value)} {oc_are_integers kV_are_integers dc_are_integers pm_are_integers cd_are_integers ct_are_integers : Value}
    (a_are_integers : PySem.W.nsIn K mainGlobals "are_integers" = some (some (.ref f_are_integers)))
    (l_are_integers : K.lookup f_are_integers = some ⟨oc_are_integers, od_are_integers, .func (PySem.W.fnOf "are_integers" "are_integers" (defArgs s_are_integers) (defBody s_are_integers) (defScope s_are_integers) .none kV_are_integers dc_are_integers pm_are_integers an_are_integers cd_are_integers ct_are_integers), sl_are_integers⟩)
    (c_are_integers : PySem.W.codeIn K cd_are_integers "are_integers" = true)
    (k_are_integers : PySem.W.keepIn K (.ref f_are_integers) = true)
    {f_is_dimension : Addr} {od_is_dimension an_is_dimension : Option Addr} {sl_is_dimension : Array (Option Value)} {oc_is_dimension kV_is_dimension dc_is_dimension pm_is_dimension cd_is_dimension ct_is_dimension : Value}
    (a_is_dimension : PySem.W.nsIn K mainGlobals "is_dimension" = some (some (.ref f_is_dimension)))
    (l_is_dimension : K.lookup f_is_dimension = some ⟨oc_is_dimension, od_is_dimension, .func (PySem.W.fnOf "is_dimension" "is_dimension" (defArgs s_is_dimension) (defBody s_is_dimension) (defScope s_is_dimension) .none kV_is_dimension dc_is_dimension pm_is_dimension an_is_dimension cd_is_dimension ct_is_dimension), sl_is_dimension⟩)
    (c_is_dimension : PySem.W.codeIn K cd_is_dimension "is_dimension" = true)
    (k_is_dimension : PySem.W.keepIn K (.ref f_is_dimension) = true)
    {f_need_dimension : Addr} {od_need_dimension an_need_dimension : Option Addr} {sl_need_dimension : Array (Option Value)} {oc_need_dimension kV_need_dimension dc_need_dimension pm_need_dimension cd_need_dimension ct_need_dimension : Value}
    (a_need_dimension : PySem.W.nsIn K mainGlobals "need_dimension" = some (some (.ref f_need_dimension)))
    (l_need_dimension : K.lookup f_need_dimension = some ⟨oc_need_dimension, od_need_dimension, .func (PySem.W.fnOf "need_dimension" "need_dimension" (defArgs s_need_dimension) (defBody s_need_dimension) (defScope s_need_dimension) .none kV_need_dimension dc_need_dimension pm_need_dimension an_need_dimension cd_need_dimension ct_need_dimension), sl_need_dimension⟩)
    (c_need_dimension : PySem.W.codeIn K cd_need_dimension "need_dimension" = true)
    (k_need_dimension : PySem.W.keepIn K (.ref f_need_dimension) = true)
    {f_need_space : Addr} {od_need_space an_need_space : Option Addr} {sl_need_space : Array (Option Value)} {oc_need_space kV_need_space dc_need_space pm_need_space cd_need_space ct_need_space : Value}
    (a_need_space : PySem.W.nsIn K mainGlobals "need_space" = some (some (.ref f_need_space)))
    (l_need_space : K.lookup f_need_space = some ⟨oc_need_space, od_need_space, .func (PySem.W.fnOf "need_space" "need_space" (defArgs s_need_space) (defBody s_need_space) (defScope s_need_space) .none kV_need_space dc_need_space pm_need_space an_need_space cd_need_space ct_need_space), sl_need_space⟩)
    (c_need_space : PySem.W.codeIn K cd_need_space "need_space" = true)
    (k_need_space : PySem.W.keepIn K (.ref f_need_space) = true)
    {f_place_width : Addr} {od_place_width an_place_width : Option Addr} {sl_place_width : Array (Option Value)} {oc_place_width kV_place_width dc_place_width pm_place_width cd_place_width ct_place_width : Value}
    (a_place_width : PySem.W.nsIn K mainGlobals "place_width" = some (some (.ref f_place_width)))
    (l_place_width : K.lookup f_place_width = some ⟨oc_place_width, od_place_width, .func (PySem.W.fnOf "place_width" "place_width" (defArgs s_place_width) (defBody s_place_width) (defScope s_place_width) .none kV_place_width dc_place_width pm_place_width an_place_width cd_place_width ct_place_width), sl_place_width⟩)
    (c_place_width : PySem.W.codeIn K cd_place_width "place_width" = true)
    (k_place_width : PySem.W.keepIn K (.ref f_place_width) = true)
    {f_is_place : Addr} {od_is_place an_is_place : Option Addr} {sl_is_place : Array (Option Value)} {oc_is_place kV_is_place dc_is_place pm_is_place cd_is_place ct_is_place : Value}
    (a_is_place : PySem.W.nsIn K mainGlobals "is_place" = some (some (.ref f_is_place)))
    (l_is_place : K.lookup f_is_place = some ⟨oc_is_place, od_is_place, .func (PySem.W.fnOf "is_place" "is_place" (defArgs s_is_place) (defBody s_is_place) (defScope s_is_place) .none kV_is_place dc_is_place pm_is_place an_is_place cd_is_place ct_is_place), sl_is_place⟩)
    (c_is_place : PySem.W.codeIn K cd_is_place "is_place" = true)
    (k_is_place : PySem.W.keepIn K (.ref f_is_place) = true)
    {f_dot : Addr} {od_dot an_dot : Option Addr} {sl_dot : Array (Option Value)} {oc_dot kV_dot dc_dot pm_dot cd_dot ct_dot : Value}
    (a_dot : PySem.W.nsIn K mainGlobals "dot" = some (some (.ref f_dot)))
    (l_dot : K.lookup f_dot = some ⟨oc_dot, od_dot, .func (PySem.W.fnOf "dot" "dot" (defArgs s_dot) (defBody s_dot) (defScope s_dot) .none kV_dot dc_dot pm_dot an_dot cd_dot ct_dot), sl_dot⟩)
    (c_dot : PySem.W.codeIn K cd_dot "dot" = true)
    (k_dot : PySem.W.keepIn K (.ref f_dot) = true)
    {f_content : Addr} {od_content an_content : Option Addr} {sl_content : Array (Option Value)} {oc_content kV_content dc_content pm_content cd_content ct_content : Value}
    (a_content : PySem.W.nsIn K mainGlobals "content" = some (some (.ref f_content)))
    (l_content : K.lookup f_content = some ⟨oc_content, od_content, .func (PySem.W.fnOf "content" "content" (defArgs s_content) (defBody s_content) (defScope s_content) .none kV_content dc_content pm_content an_content cd_content ct_content), sl_content⟩)
    (c_content : PySem.W.codeIn K cd_content "content" = true)
    (k_content : PySem.W.keepIn K (.ref f_content) = true)
    {f_need_place_at : Addr} {od_need_place_at an_need_place_at : Option Addr} {sl_need_place_at : Array (Option Value)} {oc_need_place_at kV_need_place_at dc_need_place_at pm_need_place_at cd_need_place_at ct_need_place_at : Value}
    (a_need_place_at : PySem.W.nsIn K mainGlobals "need_place_at" = some (some (.ref f_need_place_at)))
    (l_need_place_at : K.lookup f_need_place_at = some ⟨oc_need_place_at, od_need_place_at, .func (PySem.W.fnOf "need_place_at" "need_place_at" (defArgs s_need_place_at) (defBody s_need_place_at) (defScope s_need_place_at) .none kV_need_place_at dc_need_place_at pm_need_place_at an_need_place_at cd_need_place_at ct_need_place_at), sl_need_place_at⟩)
    (c_need_place_at : PySem.W.codeIn K cd_need_place_at "need_place_at" = true)
    (k_need_place_at : PySem.W.keepIn K (.ref f_need_place_at) = true)
    {f_cross : Addr} {od_cross an_cross : Option Addr} {sl_cross : Array (Option Value)} {oc_cross kV_cross dc_cross pm_cross cd_cross ct_cross : Value}
    (a_cross : PySem.W.nsIn K mainGlobals "cross" = some (some (.ref f_cross)))
    (l_cross : K.lookup f_cross = some ⟨oc_cross, od_cross, .func (PySem.W.fnOf "cross" "cross" (defArgs s_cross) (defBody s_cross) (defScope s_cross) .none kV_cross dc_cross pm_cross an_cross cd_cross ct_cross), sl_cross⟩)
    (c_cross : PySem.W.codeIn K cd_cross "cross" = true)
    (k_cross : PySem.W.keepIn K (.ref f_cross) = true)
    {f_lowest : Addr} {od_lowest an_lowest : Option Addr} {sl_lowest : Array (Option Value)} {oc_lowest kV_lowest dc_lowest pm_lowest cd_lowest ct_lowest : Value}
    (a_lowest : PySem.W.nsIn K mainGlobals "lowest" = some (some (.ref f_lowest)))
    (l_lowest : K.lookup f_lowest = some ⟨oc_lowest, od_lowest, .func (PySem.W.fnOf "lowest" "lowest" (defArgs s_lowest) (defBody s_lowest) (defScope s_lowest) .none kV_lowest dc_lowest pm_lowest an_lowest cd_lowest ct_lowest), sl_lowest⟩)
    (c_lowest : PySem.W.codeIn K cd_lowest "lowest" = true)
    (k_lowest : PySem.W.keepIn K (.ref f_lowest) = true)
    {f_need_row : Addr} {od_need_row an_need_row : Option Addr} {sl_need_row : Array (Option Value)} {oc_need_row kV_need_row dc_need_row pm_need_row cd_need_row ct_need_row : Value}
    (a_need_row : PySem.W.nsIn K mainGlobals "need_row" = some (some (.ref f_need_row)))
    (l_need_row : K.lookup f_need_row = some ⟨oc_need_row, od_need_row, .func (PySem.W.fnOf "need_row" "need_row" (defArgs s_need_row) (defBody s_need_row) (defScope s_need_row) .none kV_need_row dc_need_row pm_need_row an_need_row cd_need_row ct_need_row), sl_need_row⟩)
    (c_need_row : PySem.W.codeIn K cd_need_row "need_row" = true)
    (k_need_row : PySem.W.keepIn K (.ref f_need_row) = true)
    {f_velocity_by : Addr} {od_velocity_by an_velocity_by : Option Addr} {sl_velocity_by : Array (Option Value)} {oc_velocity_by kV_velocity_by dc_velocity_by pm_velocity_by cd_velocity_by ct_velocity_by : Value}
    (a_velocity_by : PySem.W.nsIn K mainGlobals "velocity_by" = some (some (.ref f_velocity_by)))
    (l_velocity_by : K.lookup f_velocity_by = some ⟨oc_velocity_by, od_velocity_by, .func (PySem.W.fnOf "velocity_by" "velocity_by" (defArgs s_velocity_by) (defBody s_velocity_by) (defScope s_velocity_by) .none kV_velocity_by dc_velocity_by pm_velocity_by an_velocity_by cd_velocity_by ct_velocity_by), sl_velocity_by⟩)
    (c_velocity_by : PySem.W.codeIn K cd_velocity_by "velocity_by" = true)
    (k_velocity_by : PySem.W.keepIn K (.ref f_velocity_by) = true)
    {f_axis : Addr} {od_axis an_axis : Option Addr} {sl_axis : Array (Option Value)} {oc_axis kV_axis dc_axis pm_axis cd_axis ct_axis : Value}
    (a_axis : PySem.W.nsIn K mainGlobals "axis" = some (some (.ref f_axis)))
    (l_axis : K.lookup f_axis = some ⟨oc_axis, od_axis, .func (PySem.W.fnOf "axis" "axis" (defArgs s_axis) (defBody s_axis) (defScope s_axis) .none kV_axis dc_axis pm_axis an_axis cd_axis ct_axis), sl_axis⟩)
    (c_axis : PySem.W.codeIn K cd_axis "axis" = true)
    (k_axis : PySem.W.keepIn K (.ref f_axis) = true)
    {f_pitch : Addr} {od_pitch an_pitch : Option Addr} {sl_pitch : Array (Option Value)} {oc_pitch kV_pitch dc_pitch pm_pitch cd_pitch ct_pitch : Value}
    (a_pitch : PySem.W.nsIn K mainGlobals "pitch" = some (some (.ref f_pitch)))
    (l_pitch : K.lookup f_pitch = some ⟨oc_pitch, od_pitch, .func (PySem.W.fnOf "pitch" "pitch" (defArgs s_pitch) (defBody s_pitch) (defScope s_pitch) .none kV_pitch dc_pitch pm_pitch an_pitch cd_pitch ct_pitch), sl_pitch⟩)
    (c_pitch : PySem.W.codeIn K cd_pitch "pitch" = true)
    (k_pitch : PySem.W.keepIn K (.ref f_pitch) = true)
    {f__law_mixed : Addr} {od__law_mixed an__law_mixed : Option Addr} {sl__law_mixed : Array (Option Value)} {oc__law_mixed kV__law_mixed dc__law_mixed pm__law_mixed cd__law_mixed ct__law_mixed : Value}
    (a__law_mixed : PySem.W.nsIn K mainGlobals "_law_mixed" = some (some (.ref f__law_mixed)))
    (l__law_mixed : K.lookup f__law_mixed = some ⟨oc__law_mixed, od__law_mixed, .func (PySem.W.fnOf "_law_mixed" "_law_mixed" (defArgs s__law_mixed) (defBody s__law_mixed) (defScope s__law_mixed) .none kV__law_mixed dc__law_mixed pm__law_mixed an__law_mixed cd__law_mixed ct__law_mixed), sl__law_mixed⟩)
    (c__law_mixed : PySem.W.codeIn K cd__law_mixed "_law_mixed" = true)
    (k__law_mixed : PySem.W.keepIn K (.ref f__law_mixed) = true)
    {f__law_folded : Addr} {od__law_folded an__law_folded : Option Addr} {sl__law_folded : Array (Option Value)} {oc__law_folded kV__law_folded dc__law_folded pm__law_folded cd__law_folded ct__law_folded : Value}
    (a__law_folded : PySem.W.nsIn K mainGlobals "_law_folded" = some (some (.ref f__law_folded)))
    (l__law_folded : K.lookup f__law_folded = some ⟨oc__law_folded, od__law_folded, .func (PySem.W.fnOf "_law_folded" "_law_folded" (defArgs s__law_folded) (defBody s__law_folded) (defScope s__law_folded) .none kV__law_folded dc__law_folded pm__law_folded an__law_folded cd__law_folded ct__law_folded), sl__law_folded⟩)
    (c__law_folded : PySem.W.codeIn K cd__law_folded "_law_folded" = true)
    (k__law_folded : PySem.W.keepIn K (.ref f__law_folded) = true)
    {f__law_draw : Addr} {od__law_draw an__law_draw : Option Addr} {sl__law_draw : Array (Option Value)} {oc__law_draw kV__law_draw dc__law_draw pm__law_draw cd__law_draw ct__law_draw : Value}
    (a__law_draw : PySem.W.nsIn K mainGlobals "_law_draw" = some (some (.ref f__law_draw)))
    (l__law_draw : K.lookup f__law_draw = some ⟨oc__law_draw, od__law_draw, .func (PySem.W.fnOf "_law_draw" "_law_draw" (defArgs s__law_draw) (defBody s__law_draw) (defScope s__law_draw) .none kV__law_draw dc__law_draw pm__law_draw an__law_draw cd__law_draw ct__law_draw), sl__law_draw⟩)
    (c__law_draw : PySem.W.codeIn K cd__law_draw "_law_draw" = true)
    (k__law_draw : PySem.W.keepIn K (.ref f__law_draw) = true)
    {f__law_begun : Addr} {od__law_begun an__law_begun : Option Addr} {sl__law_begun : Array (Option Value)} {oc__law_begun kV__law_begun dc__law_begun pm__law_begun cd__law_begun ct__law_begun : Value}
    (a__law_begun : PySem.W.nsIn K mainGlobals "_law_begun" = some (some (.ref f__law_begun)))
    (l__law_begun : K.lookup f__law_begun = some ⟨oc__law_begun, od__law_begun, .func (PySem.W.fnOf "_law_begun" "_law_begun" (defArgs s__law_begun) (defBody s__law_begun) (defScope s__law_begun) .none kV__law_begun dc__law_begun pm__law_begun an__law_begun cd__law_begun ct__law_begun), sl__law_begun⟩)
    (c__law_begun : PySem.W.codeIn K cd__law_begun "_law_begun" = true)
    (k__law_begun : PySem.W.keepIn K (.ref f__law_begun) = true)
    {f__law_like : Addr} {od__law_like an__law_like : Option Addr} {sl__law_like : Array (Option Value)} {oc__law_like kV__law_like dc__law_like pm__law_like cd__law_like ct__law_like : Value}
    (a__law_like : PySem.W.nsIn K mainGlobals "_law_like" = some (some (.ref f__law_like)))
    (l__law_like : K.lookup f__law_like = some ⟨oc__law_like, od__law_like, .func (PySem.W.fnOf "_law_like" "_law_like" (defArgs s__law_like) (defBody s__law_like) (defScope s__law_like) .none kV__law_like dc__law_like pm__law_like an__law_like cd__law_like ct__law_like), sl__law_like⟩)
    (c__law_like : PySem.W.codeIn K cd__law_like "_law_like" = true)
    (k__law_like : PySem.W.keepIn K (.ref f__law_like) = true)
    {f__law_of : Addr} {od__law_of an__law_of : Option Addr} {sl__law_of : Array (Option Value)} {oc__law_of kV__law_of dc__law_of pm__law_of cd__law_of ct__law_of : Value}
    (a__law_of : PySem.W.nsIn K mainGlobals "_law_of" = some (some (.ref f__law_of)))
    (l__law_of : K.lookup f__law_of = some ⟨oc__law_of, od__law_of, .func (PySem.W.fnOf "_law_of" "_law_of" (defArgs s__law_of) (defBody s__law_of) (defScope s__law_of) .none kV__law_of dc__law_of pm__law_of an__law_of cd__law_of ct__law_of), sl__law_of⟩)
    (c__law_of : PySem.W.codeIn K cd__law_of "_law_of" = true)
    (k__law_of : PySem.W.keepIn K (.ref f__law_of) = true)
    {f__law_four_place : Addr} {od__law_four_place an__law_four_place : Option Addr} {sl__law_four_place : Array (Option Value)} {oc__law_four_place kV__law_four_place dc__law_four_place pm__law_four_place cd__law_four_place ct__law_four_place : Value}
    (a__law_four_place : PySem.W.nsIn K mainGlobals "_law_four_place" = some (some (.ref f__law_four_place)))
    (l__law_four_place : K.lookup f__law_four_place = some ⟨oc__law_four_place, od__law_four_place, .func (PySem.W.fnOf "_law_four_place" "_law_four_place" (defArgs s__law_four_place) (defBody s__law_four_place) (defScope s__law_four_place) .none kV__law_four_place dc__law_four_place pm__law_four_place an__law_four_place cd__law_four_place ct__law_four_place), sl__law_four_place⟩)
    (c__law_four_place : PySem.W.codeIn K cd__law_four_place "_law_four_place" = true)
    (k__law_four_place : PySem.W.keepIn K (.ref f__law_four_place) = true)
    {f__law_four_gcd : Addr} {od__law_four_gcd an__law_four_gcd : Option Addr} {sl__law_four_gcd : Array (Option Value)} {oc__law_four_gcd kV__law_four_gcd dc__law_four_gcd pm__law_four_gcd cd__law_four_gcd ct__law_four_gcd : Value}
    (a__law_four_gcd : PySem.W.nsIn K mainGlobals "_law_four_gcd" = some (some (.ref f__law_four_gcd)))
    (l__law_four_gcd : K.lookup f__law_four_gcd = some ⟨oc__law_four_gcd, od__law_four_gcd, .func (PySem.W.fnOf "_law_four_gcd" "_law_four_gcd" (defArgs s__law_four_gcd) (defBody s__law_four_gcd) (defScope s__law_four_gcd) .none kV__law_four_gcd dc__law_four_gcd pm__law_four_gcd an__law_four_gcd cd__law_four_gcd ct__law_four_gcd), sl__law_four_gcd⟩)
    (c__law_four_gcd : PySem.W.codeIn K cd__law_four_gcd "_law_four_gcd" = true)
    (k__law_four_gcd : PySem.W.keepIn K (.ref f__law_four_gcd) = true)
    {f__law_four_short : Addr} {od__law_four_short an__law_four_short : Option Addr} {sl__law_four_short : Array (Option Value)} {oc__law_four_short kV__law_four_short dc__law_four_short pm__law_four_short cd__law_four_short ct__law_four_short : Value}
    (a__law_four_short : PySem.W.nsIn K mainGlobals "_law_four_short" = some (some (.ref f__law_four_short)))
    (l__law_four_short : K.lookup f__law_four_short = some ⟨oc__law_four_short, od__law_four_short, .func (PySem.W.fnOf "_law_four_short" "_law_four_short" (defArgs s__law_four_short) (defBody s__law_four_short) (defScope s__law_four_short) .none kV__law_four_short dc__law_four_short pm__law_four_short an__law_four_short cd__law_four_short ct__law_four_short), sl__law_four_short⟩)
    (c__law_four_short : PySem.W.codeIn K cd__law_four_short "_law_four_short" = true)
    (k__law_four_short : PySem.W.keepIn K (.ref f__law_four_short) = true)
    {f__law_three_number : Addr} {od__law_three_number an__law_three_number : Option Addr} {sl__law_three_number : Array (Option Value)} {oc__law_three_number kV__law_three_number dc__law_three_number pm__law_three_number cd__law_three_number ct__law_three_number : Value}
    (a__law_three_number : PySem.W.nsIn K mainGlobals "_law_three_number" = some (some (.ref f__law_three_number)))
    (l__law_three_number : K.lookup f__law_three_number = some ⟨oc__law_three_number, od__law_three_number, .func (PySem.W.fnOf "_law_three_number" "_law_three_number" (defArgs s__law_three_number) (defBody s__law_three_number) (defScope s__law_three_number) .none kV__law_three_number dc__law_three_number pm__law_three_number an__law_three_number cd__law_three_number ct__law_three_number), sl__law_three_number⟩)
    (c__law_three_number : PySem.W.codeIn K cd__law_three_number "_law_three_number" = true)
    (k__law_three_number : PySem.W.keepIn K (.ref f__law_three_number) = true)
    {f__law_three_dot : Addr} {od__law_three_dot an__law_three_dot : Option Addr} {sl__law_three_dot : Array (Option Value)} {oc__law_three_dot kV__law_three_dot dc__law_three_dot pm__law_three_dot cd__law_three_dot ct__law_three_dot : Value}
    (a__law_three_dot : PySem.W.nsIn K mainGlobals "_law_three_dot" = some (some (.ref f__law_three_dot)))
    (l__law_three_dot : K.lookup f__law_three_dot = some ⟨oc__law_three_dot, od__law_three_dot, .func (PySem.W.fnOf "_law_three_dot" "_law_three_dot" (defArgs s__law_three_dot) (defBody s__law_three_dot) (defScope s__law_three_dot) .none kV__law_three_dot dc__law_three_dot pm__law_three_dot an__law_three_dot cd__law_three_dot ct__law_three_dot), sl__law_three_dot⟩)
    (c__law_three_dot : PySem.W.codeIn K cd__law_three_dot "_law_three_dot" = true)
    (k__law_three_dot : PySem.W.keepIn K (.ref f__law_three_dot) = true)
    {f__law_three_cross : Addr} {od__law_three_cross an__law_three_cross : Option Addr} {sl__law_three_cross : Array (Option Value)} {oc__law_three_cross kV__law_three_cross dc__law_three_cross pm__law_three_cross cd__law_three_cross ct__law_three_cross : Value}
    (a__law_three_cross : PySem.W.nsIn K mainGlobals "_law_three_cross" = some (some (.ref f__law_three_cross)))
    (l__law_three_cross : K.lookup f__law_three_cross = some ⟨oc__law_three_cross, od__law_three_cross, .func (PySem.W.fnOf "_law_three_cross" "_law_three_cross" (defArgs s__law_three_cross) (defBody s__law_three_cross) (defScope s__law_three_cross) .none kV__law_three_cross dc__law_three_cross pm__law_three_cross an__law_three_cross cd__law_three_cross ct__law_three_cross), sl__law_three_cross⟩)
    (c__law_three_cross : PySem.W.codeIn K cd__law_three_cross "_law_three_cross" = true)
    (k__law_three_cross : PySem.W.keepIn K (.ref f__law_three_cross) = true)
    {f__law_three_plus : Addr} {od__law_three_plus an__law_three_plus : Option Addr} {sl__law_three_plus : Array (Option Value)} {oc__law_three_plus kV__law_three_plus dc__law_three_plus pm__law_three_plus cd__law_three_plus ct__law_three_plus : Value}
    (a__law_three_plus : PySem.W.nsIn K mainGlobals "_law_three_plus" = some (some (.ref f__law_three_plus)))
    (l__law_three_plus : K.lookup f__law_three_plus = some ⟨oc__law_three_plus, od__law_three_plus, .func (PySem.W.fnOf "_law_three_plus" "_law_three_plus" (defArgs s__law_three_plus) (defBody s__law_three_plus) (defScope s__law_three_plus) .none kV__law_three_plus dc__law_three_plus pm__law_three_plus an__law_three_plus cd__law_three_plus ct__law_three_plus), sl__law_three_plus⟩)
    (c__law_three_plus : PySem.W.codeIn K cd__law_three_plus "_law_three_plus" = true)
    (k__law_three_plus : PySem.W.keepIn K (.ref f__law_three_plus) = true)
    {f__law_three_is_row : Addr} {od__law_three_is_row an__law_three_is_row : Option Addr} {sl__law_three_is_row : Array (Option Value)} {oc__law_three_is_row kV__law_three_is_row dc__law_three_is_row pm__law_three_is_row cd__law_three_is_row ct__law_three_is_row : Value}
    (a__law_three_is_row : PySem.W.nsIn K mainGlobals "_law_three_is_row" = some (some (.ref f__law_three_is_row)))
    (l__law_three_is_row : K.lookup f__law_three_is_row = some ⟨oc__law_three_is_row, od__law_three_is_row, .func (PySem.W.fnOf "_law_three_is_row" "_law_three_is_row" (defArgs s__law_three_is_row) (defBody s__law_three_is_row) (defScope s__law_three_is_row) .none kV__law_three_is_row dc__law_three_is_row pm__law_three_is_row an__law_three_is_row cd__law_three_is_row ct__law_three_is_row), sl__law_three_is_row⟩)
    (c__law_three_is_row : PySem.W.codeIn K cd__law_three_is_row "_law_three_is_row" = true)
    (k__law_three_is_row : PySem.W.keepIn K (.ref f__law_three_is_row) = true)
    {f__law_three_bad : Addr} {od__law_three_bad an__law_three_bad : Option Addr} {sl__law_three_bad : Array (Option Value)} {oc__law_three_bad kV__law_three_bad dc__law_three_bad pm__law_three_bad cd__law_three_bad ct__law_three_bad : Value}
    (a__law_three_bad : PySem.W.nsIn K mainGlobals "_law_three_bad" = some (some (.ref f__law_three_bad)))
    (l__law_three_bad : K.lookup f__law_three_bad = some ⟨oc__law_three_bad, od__law_three_bad, .func (PySem.W.fnOf "_law_three_bad" "_law_three_bad" (defArgs s__law_three_bad) (defBody s__law_three_bad) (defScope s__law_three_bad) .none kV__law_three_bad dc__law_three_bad pm__law_three_bad an__law_three_bad cd__law_three_bad ct__law_three_bad), sl__law_three_bad⟩)
    (c__law_three_bad : PySem.W.codeIn K cd__law_three_bad "_law_three_bad" = true)
    (k__law_three_bad : PySem.W.keepIn K (.ref f__law_three_bad) = true)
    {f__law_motion : Addr} {od__law_motion an__law_motion : Option Addr} {sl__law_motion : Array (Option Value)} {oc__law_motion kV__law_motion dc__law_motion pm__law_motion cd__law_motion ct__law_motion : Value}
    (a__law_motion : PySem.W.nsIn K mainGlobals "_law_motion" = some (some (.ref f__law_motion)))
    (l__law_motion : K.lookup f__law_motion = some ⟨oc__law_motion, od__law_motion, .func (PySem.W.fnOf "_law_motion" "_law_motion" (defArgs s__law_motion) (defBody s__law_motion) (defScope s__law_motion) .none kV__law_motion dc__law_motion pm__law_motion an__law_motion cd__law_motion ct__law_motion), sl__law_motion⟩)
    (c__law_motion : PySem.W.codeIn K cd__law_motion "_law_motion" = true)
    (k__law_motion : PySem.W.keepIn K (.ref f__law_motion) = true)
    {f__law_scaled : Addr} {od__law_scaled an__law_scaled : Option Addr} {sl__law_scaled : Array (Option Value)} {oc__law_scaled kV__law_scaled dc__law_scaled pm__law_scaled cd__law_scaled ct__law_scaled : Value}
    (a__law_scaled : PySem.W.nsIn K mainGlobals "_law_scaled" = some (some (.ref f__law_scaled)))
    (l__law_scaled : K.lookup f__law_scaled = some ⟨oc__law_scaled, od__law_scaled, .func (PySem.W.fnOf "_law_scaled" "_law_scaled" (defArgs s__law_scaled) (defBody s__law_scaled) (defScope s__law_scaled) .none kV__law_scaled dc__law_scaled pm__law_scaled an__law_scaled cd__law_scaled ct__law_scaled), sl__law_scaled⟩)
    (c__law_scaled : PySem.W.codeIn K cd__law_scaled "_law_scaled" = true)
    (k__law_scaled : PySem.W.keepIn K (.ref f__law_scaled) = true)
    {f__law_axis_right : Addr} {od__law_axis_right an__law_axis_right : Option Addr} {sl__law_axis_right : Array (Option Value)} {oc__law_axis_right kV__law_axis_right dc__law_axis_right pm__law_axis_right cd__law_axis_right ct__law_axis_right : Value}
    (a__law_axis_right : PySem.W.nsIn K mainGlobals "_law_axis_right" = some (some (.ref f__law_axis_right)))
    (l__law_axis_right : K.lookup f__law_axis_right = some ⟨oc__law_axis_right, od__law_axis_right, .func (PySem.W.fnOf "_law_axis_right" "_law_axis_right" (defArgs s__law_axis_right) (defBody s__law_axis_right) (defScope s__law_axis_right) .none kV__law_axis_right dc__law_axis_right pm__law_axis_right an__law_axis_right cd__law_axis_right ct__law_axis_right), sl__law_axis_right⟩)
    (c__law_axis_right : PySem.W.codeIn K cd__law_axis_right "_law_axis_right" = true)
    (k__law_axis_right : PySem.W.keepIn K (.ref f__law_axis_right) = true)
    {f__law_heard : Addr} {od__law_heard an__law_heard : Option Addr} {sl__law_heard : Array (Option Value)} {oc__law_heard kV__law_heard dc__law_heard pm__law_heard cd__law_heard ct__law_heard : Value}
    (a__law_heard : PySem.W.nsIn K mainGlobals "_law_heard" = some (some (.ref f__law_heard)))
    (l__law_heard : K.lookup f__law_heard = some ⟨oc__law_heard, od__law_heard, .func (PySem.W.fnOf "_law_heard" "_law_heard" (defArgs s__law_heard) (defBody s__law_heard) (defScope s__law_heard) .none kV__law_heard dc__law_heard pm__law_heard an__law_heard cd__law_heard ct__law_heard), sl__law_heard⟩)
    (c__law_heard : PySem.W.codeIn K cd__law_heard "_law_heard" = true)
    (k__law_heard : PySem.W.keepIn K (.ref f__law_heard) = true)
    {f_velocity : Addr} {od_velocity an_velocity : Option Addr} {sl_velocity : Array (Option Value)} {oc_velocity kV_velocity dc_velocity pm_velocity cd_velocity ct_velocity : Value}
    (a_velocity : PySem.W.nsIn K mainGlobals "velocity" = some (some (.ref f_velocity)))
    (l_velocity : K.lookup f_velocity = some ⟨oc_velocity, od_velocity, .func (PySem.W.fnOf "velocity" "velocity" (defArgs s_velocity) (defBody s_velocity) (defScope s_velocity) .none kV_velocity dc_velocity pm_velocity an_velocity cd_velocity ct_velocity), sl_velocity⟩)
    (c_velocity : PySem.W.codeIn K cd_velocity "velocity" = true)
    (k_velocity : PySem.W.keepIn K (.ref f_velocity) = true)
    {f__law_beside_right : Addr} {od__law_beside_right an__law_beside_right : Option Addr} {sl__law_beside_right : Array (Option Value)} {oc__law_beside_right kV__law_beside_right dc__law_beside_right pm__law_beside_right cd__law_beside_right ct__law_beside_right : Value}
    (a__law_beside_right : PySem.W.nsIn K mainGlobals "_law_beside_right" = some (some (.ref f__law_beside_right)))
    (l__law_beside_right : K.lookup f__law_beside_right = some ⟨oc__law_beside_right, od__law_beside_right, .func (PySem.W.fnOf "_law_beside_right" "_law_beside_right" (defArgs s__law_beside_right) (defBody s__law_beside_right) (defScope s__law_beside_right) .none kV__law_beside_right dc__law_beside_right pm__law_beside_right an__law_beside_right cd__law_beside_right ct__law_beside_right), sl__law_beside_right⟩)
    (c__law_beside_right : PySem.W.codeIn K cd__law_beside_right "_law_beside_right" = true)
    (k__law_beside_right : PySem.W.keepIn K (.ref f__law_beside_right) = true)
    {f_law : Addr} {od_law an_law : Option Addr} {sl_law : Array (Option Value)} {oc_law kV_law dc_law pm_law cd_law ct_law : Value}
    (a_law : PySem.W.nsIn K mainGlobals "law" = some (some (.ref f_law)))
    (l_law : K.lookup f_law = some ⟨oc_law, od_law, .func (PySem.W.fnOf "law" "law" (defArgs s_law) (defBody s_law) (defScope s_law) .none kV_law dc_law pm_law an_law cd_law ct_law), sl_law⟩)
    (c_law : PySem.W.codeIn K cd_law "law" = true)
    (k_law : PySem.W.keepIn K (.ref f_law) = true)
    (z_abs : PySem.W.nsIn K mainGlobals "abs" = some none)
    (z_all : PySem.W.nsIn K mainGlobals "all" = some none)
    (z_any : PySem.W.nsIn K mainGlobals "any" = some none)
    (z_bool : PySem.W.nsIn K mainGlobals "bool" = some none)
    (z_enumerate : PySem.W.nsIn K mainGlobals "enumerate" = some none)
    (z_int : PySem.W.nsIn K mainGlobals "int" = some none)
    (z_isinstance : PySem.W.nsIn K mainGlobals "isinstance" = some none)
    (z_len : PySem.W.nsIn K mainGlobals "len" = some none)
    (z_list : PySem.W.nsIn K mainGlobals "list" = some none)
    (z_range : PySem.W.nsIn K mainGlobals "range" = some none)
    (z_repr : PySem.W.nsIn K mainGlobals "repr" = some none)
    (z_sum : PySem.W.nsIn K mainGlobals "sum" = some none)
    (z_tuple : PySem.W.nsIn K mainGlobals "tuple" = some none)
    (z_type : PySem.W.nsIn K mainGlobals "type" = some none)
    (z_zip : PySem.W.nsIn K mainGlobals "zip" = some none)
    {t_FARTHEST : Tok}
    (v_FARTHEST : PySem.W.nsIn K mainGlobals "FARTHEST" = some (some (.int 1000000000 t_FARTHEST)))
    (v_gcd : PySem.W.nsIn K mainGlobals "gcd" = some (some (.builtin "math.gcd")))
    {C_BadPlace fI_BadPlace : Addr} {nm_BadPlace q_BadPlace : Str} {N_BadPlace : Addr} {bs_BadPlace bm_BadPlace : List Value} {sn_BadPlace : List Str} {sub_BadPlace : List Value} {ab_BadPlace : Bool} {col_BadPlace : Option Bool} {dd_BadPlace : Option Addr} {m0_BadPlace m1_BadPlace m2_BadPlace m3_BadPlace m5_BadPlace : Option Value} {odI_BadPlace anI_BadPlace : Option Addr} {slI_BadPlace : Array (Option Value)} {ocI_BadPlace kVI_BadPlace dcI_BadPlace pmI_BadPlace cdI_BadPlace ctI_BadPlace : Value}
    (aC_BadPlace : PySem.W.nsIn K mainGlobals "BadPlace" = some (some (.ref C_BadPlace)))
    (xL_BadPlace : K.lookup C_BadPlace = some (excClassObj nm_BadPlace q_BadPlace C_BadPlace N_BadPlace bs_BadPlace bm_BadPlace true sn_BadPlace sub_BadPlace ab_BadPlace col_BadPlace dd_BadPlace m0_BadPlace m1_BadPlace m2_BadPlace m3_BadPlace m5_BadPlace "ValueError.__new__"))
    (rv_BadPlace : HandSPX.refsVE bm_BadPlace = true)
    (sa_BadPlace : PySem.W.findIn K (.ref C_BadPlace) "__setattr__" = some (some (.builtin "object.__setattr__")))
    (ga_BadPlace : PySem.W.findIn K (.ref C_BadPlace) "__getattribute__" = some (some (.builtin "BaseException.__getattribute__")))
    (gg_BadPlace : PySem.W.findIn K (.ref C_BadPlace) "__getattr__" = some none)
    (nb_BadPlace_index : PySem.W.findIn K (.ref C_BadPlace) "index" = some none)
    (iC_BadPlace : PySem.W.findIn K (.ref C_BadPlace) "__init__" = some (some (.ref fI_BadPlace)))
    (tI_BadPlace : PySem.W.typeIn K (.ref fI_BadPlace) = some (.type "function"))
    (lI_BadPlace : K.lookup fI_BadPlace = some ⟨ocI_BadPlace, odI_BadPlace, .func (PySem.W.fnOf "__init__" "BadPlace.__init__" (defArgs sI_BadPlace) (defBody sI_BadPlace) (defScope sI_BadPlace) .none kVI_BadPlace dcI_BadPlace pmI_BadPlace anI_BadPlace cdI_BadPlace ctI_BadPlace), slI_BadPlace⟩)
    (cI_BadPlace : PySem.W.codeIn K cdI_BadPlace "BadPlace.__init__" = true)
    (kI_BadPlace : PySem.W.keepIn K (.ref fI_BadPlace) = true)
    (kC_BadPlace : PySem.W.keepIn K (.ref C_BadPlace) = true)
    (eC_BadPlace : PySem.W.subIn K (.ref C_BadPlace) (.type "BaseException") = some true)
    (tC_BadPlace : PySem.W.typeIn K (.ref C_BadPlace) = some (.type "type"))
    (hC_BadPlace : PySem.W.hasDictIn K C_BadPlace = true)
    (uC_BadPlace : PySem.W.isClsIn K C_BadPlace = true)
    (sC_BadPlace : PySem.W.subIn K (.ref C_BadPlace) (.ref C_BadPlace) = some true)
    {C_BadRow fI_BadRow : Addr} {nm_BadRow q_BadRow : Str} {N_BadRow : Addr} {bs_BadRow bm_BadRow : List Value} {sn_BadRow : List Str} {sub_BadRow : List Value} {ab_BadRow : Bool} {col_BadRow : Option Bool} {dd_BadRow : Option Addr} {m0_BadRow m1_BadRow m2_BadRow m3_BadRow m5_BadRow : Option Value} {odI_BadRow anI_BadRow : Option Addr} {slI_BadRow : Array (Option Value)} {ocI_BadRow kVI_BadRow dcI_BadRow pmI_BadRow cdI_BadRow ctI_BadRow : Value}
    (aC_BadRow : PySem.W.nsIn K mainGlobals "BadRow" = some (some (.ref C_BadRow)))
    (xL_BadRow : K.lookup C_BadRow = some (excClassObj nm_BadRow q_BadRow C_BadRow N_BadRow bs_BadRow bm_BadRow true sn_BadRow sub_BadRow ab_BadRow col_BadRow dd_BadRow m0_BadRow m1_BadRow m2_BadRow m3_BadRow m5_BadRow "ValueError.__new__"))
    (rv_BadRow : HandSPX.refsVE bm_BadRow = true)
    (sa_BadRow : PySem.W.findIn K (.ref C_BadRow) "__setattr__" = some (some (.builtin "object.__setattr__")))
    (ga_BadRow : PySem.W.findIn K (.ref C_BadRow) "__getattribute__" = some (some (.builtin "BaseException.__getattribute__")))
    (gg_BadRow : PySem.W.findIn K (.ref C_BadRow) "__getattr__" = some none)
    (nb_BadRow_index : PySem.W.findIn K (.ref C_BadRow) "index" = some none)
    (iC_BadRow : PySem.W.findIn K (.ref C_BadRow) "__init__" = some (some (.ref fI_BadRow)))
    (tI_BadRow : PySem.W.typeIn K (.ref fI_BadRow) = some (.type "function"))
    (lI_BadRow : K.lookup fI_BadRow = some ⟨ocI_BadRow, odI_BadRow, .func (PySem.W.fnOf "__init__" "BadRow.__init__" (defArgs sI_BadRow) (defBody sI_BadRow) (defScope sI_BadRow) .none kVI_BadRow dcI_BadRow pmI_BadRow anI_BadRow cdI_BadRow ctI_BadRow), slI_BadRow⟩)
    (cI_BadRow : PySem.W.codeIn K cdI_BadRow "BadRow.__init__" = true)
    (kI_BadRow : PySem.W.keepIn K (.ref fI_BadRow) = true)
    (kC_BadRow : PySem.W.keepIn K (.ref C_BadRow) = true)
    (eC_BadRow : PySem.W.subIn K (.ref C_BadRow) (.type "BaseException") = some true)
    (tC_BadRow : PySem.W.typeIn K (.ref C_BadRow) = some (.type "type"))
    (hC_BadRow : PySem.W.hasDictIn K C_BadRow = true)
    (uC_BadRow : PySem.W.isClsIn K C_BadRow = true)
    (sC_BadRow : PySem.W.subIn K (.ref C_BadRow) (.ref C_BadRow) = some true)
    {C_BodyError : Addr}
    (aC_BodyError : PySem.W.nsIn K mainGlobals "BodyError" = some (some (.ref C_BodyError)))
    (uC_BodyError : PySem.W.isClsIn K C_BodyError = true)
    (tC_BodyError : PySem.W.typeIn K (.ref C_BodyError) = some (.type "type"))
    (ha_BadRow : PySem.W.findIn K (.ref C_BadRow) "__class__" = some (some (.builtin "object.__class__")))
    (hm_BadRow : PySem.W.mroIn K C_BadRow (.type "object") = some true)
    (hn : PySem.W.specialIn K (.builtin "object.__class__") "__get__" = some (some (.builtin "getset_descriptor.__get__")))
    (ht : PySem.W.takesIn K (.builtin "object.__class__") = some true)
    (ki_BadRow_BodyError : PySem.W.subIn K (.ref C_BadRow) (.ref C_BodyError) = some true) :
    ∃ (fd : FuncData) (cs : List (Addr × Addr)) (sp : Sp), (∀ p ∈ cs, PySem.W.CodeHd h p.1 p.2 ∧ h.get? p.2 = some tab0) ∧ (∀ (s : Shared) (v : Value), BindsTo s fd ⟨[v], []⟩ [("script", v)]) ∧
      (∀ (H : Hp) (a : Addr) (o : Obj) (ns : List Int), ns.length ≤ 63 → H a = some (.frz o (.lst (ns.map V.int))) → (∀ p ∈ cs, H p.2 = some (.tbl #[])) → sp [V.ref a] H (fun v _ => v = V.bl true) fun _ _ _ => False) ∧
      ∀ base : Heap, K.In base → base.Ns mainGlobals mg → (∀ p ∈ cs, GxR.TabB base mg p.1 p.2) → FnG l.prog w K mg base (L2.CX l.prog w) 6 fa fd ["script"] sp := by
  have e := hfa.symm.trans (PySem.W.mg_of X G a_law)
  cases e
  have T : Tx mg := ⟨PySem.W.mg_none_of X G z_abs, PySem.W.mg_none_of X G z_all, PySem.W.mg_none_of X G z_any, PySem.W.mg_none_of X G z_bool, PySem.W.mg_none_of X G z_enumerate, PySem.W.mg_none_of X G z_int, PySem.W.mg_none_of X G z_isinstance, PySem.W.mg_none_of X G z_len, PySem.W.mg_none_of X G z_list, PySem.W.mg_none_of X G z_range, PySem.W.mg_none_of X G z_repr, PySem.W.mg_none_of X G z_sum, PySem.W.mg_none_of X G z_tuple, PySem.W.mg_none_of X G z_type, PySem.W.mg_none_of X G z_zip, PySem.W.mg_of X G v_gcd, ⟨_, PySem.W.mg_of X G v_FARTHEST⟩⟩
  obtain ⟨tc_are_integers, tp_are_integers, tt_are_integers⟩ := HT "are_integers" (by decide)
  obtain ⟨tc_is_place, tp_is_place, tt_is_place⟩ := HT "is_place" (by decide)
  letI : Tabs := ⟨[tp_are_integers, tp_is_place]⟩
  have A_is_whole : At K mg "is_whole" s_is_whole P_is_whole _ _ := ⟨fun_mk (st := s_is_whole) l_is_whole c_is_whole k_is_whole, PySem.W.mg_of X G a_is_whole, k_is_whole, (fun_mk (st := s_is_whole) l_is_whole c_is_whole k_is_whole).binds (ps := P_is_whole) fun _ _ _ _ _ _ us hl => match us, hl with | [_, _, _], _ => rfl⟩
  have A_is_row : At K mg "is_row" s_is_row P_is_row _ _ := ⟨fun_mk (st := s_is_row) l_is_row c_is_row k_is_row, PySem.W.mg_of X G a_is_row, k_is_row, (fun_mk (st := s_is_row) l_is_row c_is_row k_is_row).binds (ps := P_is_row) fun _ _ _ _ _ _ us hl => match us, hl with | [_, _], _ => rfl⟩
  have A_are_integers : At K mg "are_integers" s_are_integers P_are_integers _ _ := ⟨fun_mk (st := s_are_integers) l_are_integers c_are_integers k_are_integers, PySem.W.mg_of X G a_are_integers, k_are_integers, (fun_mk (st := s_are_integers) l_are_integers c_are_integers k_are_integers).binds (ps := P_are_integers) fun _ _ _ _ _ _ us hl => match us, hl with | [_, _], _ => rfl⟩
  have A_is_dimension : At K mg "is_dimension" s_is_dimension P_is_dimension _ _ := ⟨fun_mk (st := s_is_dimension) l_is_dimension c_is_dimension k_is_dimension, PySem.W.mg_of X G a_is_dimension, k_is_dimension, (fun_mk (st := s_is_dimension) l_is_dimension c_is_dimension k_is_dimension).binds (ps := P_is_dimension) fun _ _ _ _ _ _ us hl => match us, hl with | [_], _ => rfl⟩
  have A_need_dimension : At K mg "need_dimension" s_need_dimension P_need_dimension _ _ := ⟨fun_mk (st := s_need_dimension) l_need_dimension c_need_dimension k_need_dimension, PySem.W.mg_of X G a_need_dimension, k_need_dimension, (fun_mk (st := s_need_dimension) l_need_dimension c_need_dimension k_need_dimension).binds (ps := P_need_dimension) fun _ _ _ _ _ _ us hl => match us, hl with | [_], _ => rfl⟩
  have A_need_space : At K mg "need_space" s_need_space P_need_space _ _ := ⟨fun_mk (st := s_need_space) l_need_space c_need_space k_need_space, PySem.W.mg_of X G a_need_space, k_need_space, (fun_mk (st := s_need_space) l_need_space c_need_space k_need_space).binds (ps := P_need_space) fun _ _ _ _ _ _ us hl => match us, hl with | [_], _ => rfl⟩
  have A_place_width : At K mg "place_width" s_place_width P_place_width _ _ := ⟨fun_mk (st := s_place_width) l_place_width c_place_width k_place_width, PySem.W.mg_of X G a_place_width, k_place_width, (fun_mk (st := s_place_width) l_place_width c_place_width k_place_width).binds (ps := P_place_width) fun _ _ _ _ _ _ us hl => match us, hl with | [_], _ => rfl⟩
  have A_is_place : At K mg "is_place" s_is_place P_is_place _ _ := ⟨fun_mk (st := s_is_place) l_is_place c_is_place k_is_place, PySem.W.mg_of X G a_is_place, k_is_place, (fun_mk (st := s_is_place) l_is_place c_is_place k_is_place).binds (ps := P_is_place) fun _ _ _ _ _ _ us hl => match us, hl with | [_, _], _ => rfl⟩
  have A_dot : At K mg "dot" s_dot P_dot _ _ := ⟨fun_mk (st := s_dot) l_dot c_dot k_dot, PySem.W.mg_of X G a_dot, k_dot, (fun_mk (st := s_dot) l_dot c_dot k_dot).binds (ps := P_dot) fun _ _ _ _ _ _ us hl => match us, hl with | [_, _], _ => rfl⟩
  have A_content : At K mg "content" s_content P_content _ _ := ⟨fun_mk (st := s_content) l_content c_content k_content, PySem.W.mg_of X G a_content, k_content, (fun_mk (st := s_content) l_content c_content k_content).binds (ps := P_content) fun _ _ _ _ _ _ us hl => match us, hl with | [_], _ => rfl⟩
  have A_need_place_at : At K mg "need_place_at" s_need_place_at P_need_place_at _ _ := ⟨fun_mk (st := s_need_place_at) l_need_place_at c_need_place_at k_need_place_at, PySem.W.mg_of X G a_need_place_at, k_need_place_at, (fun_mk (st := s_need_place_at) l_need_place_at c_need_place_at k_need_place_at).binds (ps := P_need_place_at) fun _ _ _ _ _ _ us hl => match us, hl with | [_, _, _], _ => rfl⟩
  have A_cross : At K mg "cross" s_cross P_cross _ _ := ⟨fun_mk (st := s_cross) l_cross c_cross k_cross, PySem.W.mg_of X G a_cross, k_cross, (fun_mk (st := s_cross) l_cross c_cross k_cross).binds (ps := P_cross) fun _ _ _ _ _ _ us hl => match us, hl with | [_, _], _ => rfl⟩
  have A_lowest : At K mg "lowest" s_lowest P_lowest _ _ := ⟨fun_mk (st := s_lowest) l_lowest c_lowest k_lowest, PySem.W.mg_of X G a_lowest, k_lowest, (fun_mk (st := s_lowest) l_lowest c_lowest k_lowest).binds (ps := P_lowest) fun _ _ _ _ _ _ us hl => match us, hl with | [_, _], _ => rfl⟩
  have A_need_row : At K mg "need_row" s_need_row P_need_row _ _ := ⟨fun_mk (st := s_need_row) l_need_row c_need_row k_need_row, PySem.W.mg_of X G a_need_row, k_need_row, (fun_mk (st := s_need_row) l_need_row c_need_row k_need_row).binds (ps := P_need_row) fun _ _ _ _ _ _ us hl => match us, hl with | [_, _, _], _ => rfl⟩
  have A_velocity_by : At K mg "velocity_by" s_velocity_by P_velocity_by _ _ := ⟨fun_mk (st := s_velocity_by) l_velocity_by c_velocity_by k_velocity_by, PySem.W.mg_of X G a_velocity_by, k_velocity_by, (fun_mk (st := s_velocity_by) l_velocity_by c_velocity_by k_velocity_by).binds (ps := P_velocity_by) fun _ _ _ _ _ _ us hl => match us, hl with | [_, _], _ => rfl⟩
  have A_axis : At K mg "axis" s_axis P_axis _ _ := ⟨fun_mk (st := s_axis) l_axis c_axis k_axis, PySem.W.mg_of X G a_axis, k_axis, (fun_mk (st := s_axis) l_axis c_axis k_axis).binds (ps := P_axis) fun _ _ _ _ _ _ us hl => match us, hl with | [_], _ => rfl⟩
  have A_pitch : At K mg "pitch" s_pitch P_pitch _ _ := ⟨fun_mk (st := s_pitch) l_pitch c_pitch k_pitch, PySem.W.mg_of X G a_pitch, k_pitch, (fun_mk (st := s_pitch) l_pitch c_pitch k_pitch).binds (ps := P_pitch) fun _ _ _ _ _ _ us hl => match us, hl with | [_], _ => rfl⟩
  have A__law_mixed : At K mg "_law_mixed" s__law_mixed P__law_mixed _ _ := ⟨fun_mk (st := s__law_mixed) l__law_mixed c__law_mixed k__law_mixed, PySem.W.mg_of X G a__law_mixed, k__law_mixed, (fun_mk (st := s__law_mixed) l__law_mixed c__law_mixed k__law_mixed).binds (ps := P__law_mixed) fun _ _ _ _ _ _ us hl => match us, hl with | [_, _], _ => rfl⟩
  have A__law_folded : At K mg "_law_folded" s__law_folded P__law_folded _ _ := ⟨fun_mk (st := s__law_folded) l__law_folded c__law_folded k__law_folded, PySem.W.mg_of X G a__law_folded, k__law_folded, (fun_mk (st := s__law_folded) l__law_folded c__law_folded k__law_folded).binds (ps := P__law_folded) fun _ _ _ _ _ _ us hl => match us, hl with | [_], _ => rfl⟩
  have A__law_draw : At K mg "_law_draw" s__law_draw P__law_draw _ _ := ⟨fun_mk (st := s__law_draw) l__law_draw c__law_draw k__law_draw, PySem.W.mg_of X G a__law_draw, k__law_draw, (fun_mk (st := s__law_draw) l__law_draw c__law_draw k__law_draw).binds (ps := P__law_draw) fun _ _ _ _ _ _ us hl => match us, hl with | [_, _], _ => rfl⟩
  have A__law_begun : At K mg "_law_begun" s__law_begun P__law_begun _ _ := ⟨fun_mk (st := s__law_begun) l__law_begun c__law_begun k__law_begun, PySem.W.mg_of X G a__law_begun, k__law_begun, (fun_mk (st := s__law_begun) l__law_begun c__law_begun k__law_begun).binds (ps := P__law_begun) fun _ _ _ _ _ _ us hl => match us, hl with | [_], _ => rfl⟩
  have A__law_like : At K mg "_law_like" s__law_like P__law_like _ _ := ⟨fun_mk (st := s__law_like) l__law_like c__law_like k__law_like, PySem.W.mg_of X G a__law_like, k__law_like, (fun_mk (st := s__law_like) l__law_like c__law_like k__law_like).binds (ps := P__law_like) fun _ _ _ _ _ _ us hl => match us, hl with | [_, _], _ => rfl⟩
  have A__law_of : At K mg "_law_of" s__law_of P__law_of _ _ := ⟨fun_mk (st := s__law_of) l__law_of c__law_of k__law_of, PySem.W.mg_of X G a__law_of, k__law_of, (fun_mk (st := s__law_of) l__law_of c__law_of k__law_of).binds (ps := P__law_of) fun _ _ _ _ _ _ us hl => match us, hl with | [_, _], _ => rfl⟩
  have A__law_four_place : At K mg "_law_four_place" s__law_four_place P__law_four_place _ _ := ⟨fun_mk (st := s__law_four_place) l__law_four_place c__law_four_place k__law_four_place, PySem.W.mg_of X G a__law_four_place, k__law_four_place, (fun_mk (st := s__law_four_place) l__law_four_place c__law_four_place k__law_four_place).binds (ps := P__law_four_place) fun _ _ _ _ _ _ us hl => match us, hl with | [_, _, _], _ => rfl⟩
  have A__law_four_gcd : At K mg "_law_four_gcd" s__law_four_gcd P__law_four_gcd _ _ := ⟨fun_mk (st := s__law_four_gcd) l__law_four_gcd c__law_four_gcd k__law_four_gcd, PySem.W.mg_of X G a__law_four_gcd, k__law_four_gcd, (fun_mk (st := s__law_four_gcd) l__law_four_gcd c__law_four_gcd k__law_four_gcd).binds (ps := P__law_four_gcd) fun _ _ _ _ _ _ us hl => match us, hl with | [_, _], _ => rfl⟩
  have A__law_four_short : At K mg "_law_four_short" s__law_four_short P__law_four_short _ _ := ⟨fun_mk (st := s__law_four_short) l__law_four_short c__law_four_short k__law_four_short, PySem.W.mg_of X G a__law_four_short, k__law_four_short, (fun_mk (st := s__law_four_short) l__law_four_short c__law_four_short k__law_four_short).binds (ps := P__law_four_short) fun _ _ _ _ _ _ us hl => match us, hl with | [_], _ => rfl⟩
  have A__law_three_number : At K mg "_law_three_number" s__law_three_number P__law_three_number _ _ := ⟨fun_mk (st := s__law_three_number) l__law_three_number c__law_three_number k__law_three_number, PySem.W.mg_of X G a__law_three_number, k__law_three_number, (fun_mk (st := s__law_three_number) l__law_three_number c__law_three_number k__law_three_number).binds (ps := P__law_three_number) fun _ _ _ _ _ _ us hl => match us, hl with | [_, _], _ => rfl⟩
  have A__law_three_dot : At K mg "_law_three_dot" s__law_three_dot P__law_three_dot _ _ := ⟨fun_mk (st := s__law_three_dot) l__law_three_dot c__law_three_dot k__law_three_dot, PySem.W.mg_of X G a__law_three_dot, k__law_three_dot, (fun_mk (st := s__law_three_dot) l__law_three_dot c__law_three_dot k__law_three_dot).binds (ps := P__law_three_dot) fun _ _ _ _ _ _ us hl => match us, hl with | [_, _], _ => rfl⟩
  have A__law_three_cross : At K mg "_law_three_cross" s__law_three_cross P__law_three_cross _ _ := ⟨fun_mk (st := s__law_three_cross) l__law_three_cross c__law_three_cross k__law_three_cross, PySem.W.mg_of X G a__law_three_cross, k__law_three_cross, (fun_mk (st := s__law_three_cross) l__law_three_cross c__law_three_cross k__law_three_cross).binds (ps := P__law_three_cross) fun _ _ _ _ _ _ us hl => match us, hl with | [_, _], _ => rfl⟩
  have A__law_three_plus : At K mg "_law_three_plus" s__law_three_plus P__law_three_plus _ _ := ⟨fun_mk (st := s__law_three_plus) l__law_three_plus c__law_three_plus k__law_three_plus, PySem.W.mg_of X G a__law_three_plus, k__law_three_plus, (fun_mk (st := s__law_three_plus) l__law_three_plus c__law_three_plus k__law_three_plus).binds (ps := P__law_three_plus) fun _ _ _ _ _ _ us hl => match us, hl with | [_, _, _], _ => rfl⟩
  have A__law_three_is_row : At K mg "_law_three_is_row" s__law_three_is_row P__law_three_is_row _ _ := ⟨fun_mk (st := s__law_three_is_row) l__law_three_is_row c__law_three_is_row k__law_three_is_row, PySem.W.mg_of X G a__law_three_is_row, k__law_three_is_row, (fun_mk (st := s__law_three_is_row) l__law_three_is_row c__law_three_is_row k__law_three_is_row).binds (ps := P__law_three_is_row) fun _ _ _ _ _ _ us hl => match us, hl with | [_, _], _ => rfl⟩
  have A__law_three_bad : At K mg "_law_three_bad" s__law_three_bad P__law_three_bad _ _ := ⟨fun_mk (st := s__law_three_bad) l__law_three_bad c__law_three_bad k__law_three_bad, PySem.W.mg_of X G a__law_three_bad, k__law_three_bad, (fun_mk (st := s__law_three_bad) l__law_three_bad c__law_three_bad k__law_three_bad).binds (ps := P__law_three_bad) fun _ _ _ _ _ _ us hl => match us, hl with | [_, _], _ => rfl⟩
  have A__law_motion : At K mg "_law_motion" s__law_motion P__law_motion _ _ := ⟨fun_mk (st := s__law_motion) l__law_motion c__law_motion k__law_motion, PySem.W.mg_of X G a__law_motion, k__law_motion, (fun_mk (st := s__law_motion) l__law_motion c__law_motion k__law_motion).binds (ps := P__law_motion) fun _ _ _ _ _ _ us hl => match us, hl with | [_], _ => rfl⟩
  have A__law_scaled : At K mg "_law_scaled" s__law_scaled P__law_scaled _ _ := ⟨fun_mk (st := s__law_scaled) l__law_scaled c__law_scaled k__law_scaled, PySem.W.mg_of X G a__law_scaled, k__law_scaled, (fun_mk (st := s__law_scaled) l__law_scaled c__law_scaled k__law_scaled).binds (ps := P__law_scaled) fun _ _ _ _ _ _ us hl => match us, hl with | [_, _, _], _ => rfl⟩
  have A__law_axis_right : At K mg "_law_axis_right" s__law_axis_right P__law_axis_right _ _ := ⟨fun_mk (st := s__law_axis_right) l__law_axis_right c__law_axis_right k__law_axis_right, PySem.W.mg_of X G a__law_axis_right, k__law_axis_right, (fun_mk (st := s__law_axis_right) l__law_axis_right c__law_axis_right k__law_axis_right).binds (ps := P__law_axis_right) fun _ _ _ _ _ _ us hl => match us, hl with | [_, _, _], _ => rfl⟩
  have A__law_heard : At K mg "_law_heard" s__law_heard P__law_heard _ _ := ⟨fun_mk (st := s__law_heard) l__law_heard c__law_heard k__law_heard, PySem.W.mg_of X G a__law_heard, k__law_heard, (fun_mk (st := s__law_heard) l__law_heard c__law_heard k__law_heard).binds (ps := P__law_heard) fun _ _ _ _ _ _ us hl => match us, hl with | [_, _], _ => rfl⟩
  have A_velocity : At K mg "velocity" s_velocity P_velocity _ _ := ⟨fun_mk (st := s_velocity) l_velocity c_velocity k_velocity, PySem.W.mg_of X G a_velocity, k_velocity, (fun_mk (st := s_velocity) l_velocity c_velocity k_velocity).binds (ps := P_velocity) fun _ _ _ _ _ _ us hl => match us, hl with | [_, _, _], _ => rfl⟩
  have A__law_beside_right : At K mg "_law_beside_right" s__law_beside_right P__law_beside_right _ _ := ⟨fun_mk (st := s__law_beside_right) l__law_beside_right c__law_beside_right k__law_beside_right, PySem.W.mg_of X G a__law_beside_right, k__law_beside_right, (fun_mk (st := s__law_beside_right) l__law_beside_right c__law_beside_right k__law_beside_right).binds (ps := P__law_beside_right) fun _ _ _ _ _ _ us hl => match us, hl with | [_, _, _], _ => rfl⟩
  have A_law : At K mg "law" s_law P_law _ _ := ⟨fun_mk (st := s_law) l_law c_law k_law, PySem.W.mg_of X G a_law, k_law, (fun_mk (st := s_law) l_law c_law k_law).binds (ps := P_law) fun _ _ _ _ _ _ us hl => match us, hl with | [_], _ => rfl⟩
  let CA : ClsAt := caOf C_BadPlace C_BadRow
  have hCBadPlace : CA "BadPlace" = C_BadPlace := by
    show caOf C_BadPlace C_BadRow "BadPlace" = C_BadPlace
    unfold caOf
    rw [if_pos rfl]
  have O_BadPlace : OexC K C_BadPlace := ⟨⟨nm_BadPlace, q_BadPlace, N_BadPlace, bs_BadPlace, bm_BadPlace, sn_BadPlace, sub_BadPlace, ab_BadPlace, col_BadPlace, dd_BadPlace, m0_BadPlace, m1_BadPlace, m2_BadPlace, m3_BadPlace, m5_BadPlace, xL_BadPlace, rv_BadPlace⟩, sa_BadPlace, eC_BadPlace, tC_BadPlace, kC_BadPlace⟩
  have FI_BadPlace := fun_mk (st := sI_BadPlace) lI_BadPlace cI_BadPlace kI_BadPlace
  have E_BadPlace : ∀ base, ErrC l.prog w K mg base CA "BadPlace" fI_BadPlace _ ["self", "index"] fun C => spI1 C "index" := fun base => by
    refine ⟨?_, ?_, tI_BadPlace, ?_, FI_BadPlace.binds (ps := ["self", "index"]) fun _ _ _ _ _ _ us hl => match us, hl with | [_, _], _ => rfl, ?_, ?_, ?_⟩
    all_goals rw [hCBadPlace]
    · exact O_BadPlace
    · exact iC_BadPlace
    · exact init_BadPlace FI_BadPlace O_BadPlace nb_BadPlace_index
    · exact PySem.W.mg_of X G aC_BadPlace
    · exact exm_self eC_BadPlace tC_BadPlace hC_BadPlace sC_BadPlace
    · exact ⟨ga_BadPlace, gg_BadPlace, eC_BadPlace, hC_BadPlace⟩
  have N_BadPlace_index : PySem.W.findIn K (.ref (CA "BadPlace")) "index" = some none := by rw [hCBadPlace]; exact nb_BadPlace_index
  have hCBadRow : CA "BadRow" = C_BadRow := by
    show caOf C_BadPlace C_BadRow "BadRow" = C_BadRow
    unfold caOf
    rw [if_neg (by decide +kernel), if_pos rfl]
  have O_BadRow : OexC K C_BadRow := ⟨⟨nm_BadRow, q_BadRow, N_BadRow, bs_BadRow, bm_BadRow, sn_BadRow, sub_BadRow, ab_BadRow, col_BadRow, dd_BadRow, m0_BadRow, m1_BadRow, m2_BadRow, m3_BadRow, m5_BadRow, xL_BadRow, rv_BadRow⟩, sa_BadRow, eC_BadRow, tC_BadRow, kC_BadRow⟩
  have FI_BadRow := fun_mk (st := sI_BadRow) lI_BadRow cI_BadRow kI_BadRow
  have E_BadRow : ∀ base, ErrC l.prog w K mg base CA "BadRow" fI_BadRow _ ["self", "index"] fun C => spI1 C "index" := fun base => by
    refine ⟨?_, ?_, tI_BadRow, ?_, FI_BadRow.binds (ps := ["self", "index"]) fun _ _ _ _ _ _ us hl => match us, hl with | [_, _], _ => rfl, ?_, ?_, ?_⟩
    all_goals rw [hCBadRow]
    · exact O_BadRow
    · exact iC_BadRow
    · exact init_BadRow FI_BadRow O_BadRow nb_BadRow_index
    · exact PySem.W.mg_of X G aC_BadRow
    · exact exm_self eC_BadRow tC_BadRow hC_BadRow sC_BadRow
    · exact ⟨ga_BadRow, gg_BadRow, eC_BadRow, hC_BadRow⟩
  have N_BadRow_index : PySem.W.findIn K (.ref (CA "BadRow")) "index" = some none := by rw [hCBadRow]; exact nb_BadRow_index
  have I_BadRow_BodyError : IsiC K mg CA "BadRow" "BodyError" := by
    refine ⟨⟨C_BodyError, PySem.W.mg_of X G aC_BodyError, ?_⟩, ?_⟩
    all_goals rw [hCBadRow]
    · exact kit_of uC_BodyError tC_BodyError ki_BadRow_BodyError
    · exact ⟨ga_BadRow, gg_BadRow, eC_BadRow, hC_BadRow, ha_BadRow, hn, ht, hm_BadRow⟩
  refine ⟨PySem.W.fnOf "law" "law" (defArgs s_law) (defBody s_law) (defScope s_law) .none kV_law dc_law pm_law an_law cd_law ct_law, [(tc_are_integers, tp_are_integers), (tc_is_place, tp_is_place)], lawSp, ?_, fun s v => .of_eq rfl, fun H a o ns hl hH hT => lawSp_start hH hl ?_, fun base _ _ hTB => ?_⟩
  · intro p hp
    simp only [List.mem_cons, List.not_mem_nil, or_false] at hp
    rcases hp with z | z
    · rw [z]; exact ⟨tt_are_integers.head, tt_are_integers.tab⟩
    · rw [z]; exact ⟨tt_is_place.head, tt_is_place.tab⟩
  · intro p hp
    have hp2 : p ∈ [tp_are_integers, tp_is_place] := hp
    simp only [List.mem_cons, List.not_mem_nil, or_false] at hp2
    rcases hp2 with z | z
    · rw [z]; exact hT (tc_are_integers, tp_are_integers) (by simp)
    · rw [z]; exact hT (tc_is_place, tp_is_place) (by simp)
  have G_is_whole : FnG l.prog w K mg base (L2.CX l.prog w) 1 _ _ P_is_whole (spF K CA 3 fn_is_whole) := ok_is_whole T A_is_whole 
  have G_is_row : FnG l.prog w K mg base (L2.CX l.prog w) 1 _ _ P_is_row (spF K CA 2 fn_is_row) := ok_is_row T A_is_row 
  have G_are_integers : FnG l.prog w K mg base (L2.CX l.prog w) 2 _ _ P_are_integers (spF K CA 2 fn_are_integers) := ok_are_integers T A_are_integers (code_of X (PySem.W.mg_of X G a_are_integers) l_are_integers tt_are_integers) (hTB (tc_are_integers, tp_are_integers) (by simp)) (show tp_are_integers ∈ [tp_are_integers, tp_is_place] by simp) A_is_row G_is_row
  have G_is_dimension : FnG l.prog w K mg base (L2.CX l.prog w) 1 _ _ P_is_dimension (spF K CA 1 fn_is_dimension) := ok_is_dimension T A_is_dimension 
  have G_need_dimension : FnG l.prog w K mg base (L2.CX l.prog w) 2 _ _ P_need_dimension (spF K CA 1 fn_need_dimension) := ok_need_dimension T A_need_dimension A_is_dimension G_is_dimension
  have G_need_space : FnG l.prog w K mg base (L2.CX l.prog w) 3 _ _ P_need_space (spF K CA 1 fn_need_space) := ok_need_space T A_need_space A_need_dimension G_need_dimension
  have G_place_width : FnG l.prog w K mg base (L2.CX l.prog w) 1 _ _ P_place_width (spF K CA 1 fn_place_width) := ok_place_width T A_place_width 
  have G_is_place : FnG l.prog w K mg base (L2.CX l.prog w) 2 _ _ P_is_place (spF K CA 2 fn_is_place) := ok_is_place T A_is_place (code_of X (PySem.W.mg_of X G a_is_place) l_is_place tt_is_place) (hTB (tc_is_place, tp_is_place) (by simp)) (show tp_is_place ∈ [tp_are_integers, tp_is_place] by simp) A_is_row G_is_row A_is_whole G_is_whole
  have G_dot : FnG l.prog w K mg base (L2.CX l.prog w) 1 _ _ P_dot (spF K CA 2 fn_dot) := ok_dot T A_dot 
  have G_content : FnG l.prog w K mg base (L2.CX l.prog w) 1 _ _ P_content (spF K CA 1 fn_content) := ok_content T A_content 
  have G_need_place_at : FnG l.prog w K mg base (L2.CX l.prog w) 3 _ _ P_need_place_at (spF K CA 3 fn_need_place_at) := ok_need_place_at T A_need_place_at A_is_place G_is_place A_place_width G_place_width (E_BadPlace base) N_BadPlace_index
  have G_cross : FnG l.prog w K mg base (L2.CX l.prog w) 1 _ _ P_cross (spF K CA 2 fn_cross) := ok_cross T A_cross 
  have G_lowest : FnG l.prog w K mg base (L2.CX l.prog w) 2 _ _ P_lowest (spF K CA 2 fn_lowest) := ok_lowest T A_lowest A_content G_content
  have G_need_row : FnG l.prog w K mg base (L2.CX l.prog w) 3 _ _ P_need_row (spF K CA 3 fn_need_row) := ok_need_row T A_need_row A_are_integers G_are_integers (E_BadRow base) N_BadRow_index
  have G_velocity_by : FnG l.prog w K mg base (L2.CX l.prog w) 2 _ _ P_velocity_by (spF K CA 2 fn_velocity_by) := ok_velocity_by T A_velocity_by A_cross G_cross
  have G_axis : FnG l.prog w K mg base (L2.CX l.prog w) 4 _ _ P_axis (spF K CA 1 fn_axis) := ok_axis T A_axis A_need_row G_need_row A_lowest G_lowest A_cross G_cross A_dot G_dot A_content G_content
  have G_pitch : FnG l.prog w K mg base (L2.CX l.prog w) 4 _ _ P_pitch (spF K CA 1 fn_pitch) := ok_pitch T A_pitch A_need_row G_need_row A_lowest G_lowest A_dot G_dot
  have G__law_mixed : FnG l.prog w K mg base (L2.CX l.prog w) 1 _ _ P__law_mixed (spF K CA 2 fn__law_mixed) := ok__law_mixed T A__law_mixed 
  have G__law_folded : FnG l.prog w K mg base (L2.CX l.prog w) 1 _ _ P__law_folded (spF K CA 1 fn__law_folded) := ok__law_folded T A__law_folded 
  have G__law_draw : FnG l.prog w K mg base (L2.CX l.prog w) 2 _ _ P__law_draw (spF K CA 2 fn__law_draw) := ok__law_draw T A__law_draw A__law_mixed G__law_mixed
  have G__law_begun : FnG l.prog w K mg base (L2.CX l.prog w) 2 _ _ P__law_begun (spF K CA 1 fn__law_begun) := ok__law_begun T A__law_begun A__law_folded G__law_folded
  have G__law_like : FnG l.prog w K mg base (L2.CX l.prog w) 1 _ _ P__law_like (spF K CA 2 fn__law_like) := ok__law_like T A__law_like 
  have G__law_of : FnG l.prog w K mg base (L2.CX l.prog w) 3 _ _ P__law_of (spF K CA 2 fn__law_of) := ok__law_of T A__law_of A__law_draw G__law_draw
  have G__law_four_place : FnG l.prog w K mg base (L2.CX l.prog w) 3 _ _ P__law_four_place (spF K CA 3 fn__law_four_place) := ok__law_four_place T A__law_four_place A__law_draw G__law_draw
  have G__law_four_gcd : FnG l.prog w K mg base (L2.CX l.prog w) 1 _ _ P__law_four_gcd (spF K CA 2 fn__law_four_gcd) := ok__law_four_gcd T A__law_four_gcd 
  have G__law_four_short : FnG l.prog w K mg base (L2.CX l.prog w) 2 _ _ P__law_four_short (spF K CA 1 fn__law_four_short) := ok__law_four_short T A__law_four_short A__law_four_gcd G__law_four_gcd
  have G__law_three_number : FnG l.prog w K mg base (L2.CX l.prog w) 3 _ _ P__law_three_number (spF K CA 2 fn__law_three_number) := ok__law_three_number T A__law_three_number A__law_draw G__law_draw
  have G__law_three_dot : FnG l.prog w K mg base (L2.CX l.prog w) 1 _ _ P__law_three_dot (spF K CA 2 fn__law_three_dot) := ok__law_three_dot T A__law_three_dot 
  have G__law_three_cross : FnG l.prog w K mg base (L2.CX l.prog w) 1 _ _ P__law_three_cross (spF K CA 2 fn__law_three_cross) := ok__law_three_cross T A__law_three_cross 
  have G__law_three_plus : FnG l.prog w K mg base (L2.CX l.prog w) 1 _ _ P__law_three_plus (spF K CA 3 fn__law_three_plus) := ok__law_three_plus T A__law_three_plus 
  have G__law_three_is_row : FnG l.prog w K mg base (L2.CX l.prog w) 1 _ _ P__law_three_is_row (spF K CA 2 fn__law_three_is_row) := ok__law_three_is_row T A__law_three_is_row 
  have G__law_three_bad : FnG l.prog w K mg base (L2.CX l.prog w) 4 _ _ P__law_three_bad (spF K CA 2 fn__law_three_bad) := ok__law_three_bad T A__law_three_bad A__law_draw G__law_draw A__law_of G__law_of
  have G__law_motion : FnG l.prog w K mg base (L2.CX l.prog w) 4 _ _ P__law_motion (spF K CA 1 fn__law_motion) := ok__law_motion T A__law_motion A__law_draw G__law_draw A__law_of G__law_of A__law_three_number G__law_three_number A__law_four_place G__law_four_place A__law_three_plus G__law_three_plus A__law_three_cross G__law_three_cross
  have G__law_scaled : FnG l.prog w K mg base (L2.CX l.prog w) 2 _ _ P__law_scaled (spF K CA 3 fn__law_scaled) := ok__law_scaled T A__law_scaled A__law_three_plus G__law_three_plus A__law_three_cross G__law_three_cross
  have G__law_axis_right : FnG l.prog w K mg base (L2.CX l.prog w) 3 _ _ P__law_axis_right (spF K CA 3 fn__law_axis_right) := ok__law_axis_right T A__law_axis_right A__law_three_is_row G__law_three_is_row A__law_four_short G__law_four_short A__law_like G__law_like A__law_three_dot G__law_three_dot A__law_three_plus G__law_three_plus A__law_scaled G__law_scaled
  have G__law_heard : FnG l.prog w K mg base (L2.CX l.prog w) 5 _ _ P__law_heard (spF K CA 2 fn__law_heard) := ok__law_heard T A__law_heard A_axis G_axis A_pitch G_pitch (E_BadRow base) N_BadRow_index I_BadRow_BodyError
  have G_velocity : FnG l.prog w K mg base (L2.CX l.prog w) 4 _ _ P_velocity (spF K CA 3 fn_velocity) := ok_velocity T A_velocity A_need_row G_need_row A_need_space G_need_space A_need_place_at G_need_place_at A_velocity_by G_velocity_by
  have G__law_beside_right : FnG l.prog w K mg base (L2.CX l.prog w) 5 _ _ P__law_beside_right (spF K CA 3 fn__law_beside_right) := ok__law_beside_right T A__law_beside_right A__law_four_place G__law_four_place A__law_of G__law_of A_velocity G_velocity A__law_like G__law_like A__law_scaled G__law_scaled A__law_three_cross G__law_three_cross A__law_three_dot G__law_three_dot
  have G_law : FnG l.prog w K mg base (L2.CX l.prog w) 6 _ _ P_law (spF K CA 1 fn_law) := ok_law T A_law A__law_begun G__law_begun A__law_motion G__law_motion A_pitch G_pitch A_axis G_axis A__law_like G__law_like A__law_axis_right G__law_axis_right A__law_beside_right G__law_beside_right A__law_three_bad G__law_three_bad A__law_heard G__law_heard
  exact fnG_law law_true rfl G_law
end Z

open PySem PySem.W PyProof.Rows in
set_option maxRecDepth 100000 in
set_option maxHeartbeats 0 in
theorem PySem.Challenge.cw_bodybars_k21_whole_axes_and_pitches_holds : PySem.Challenge.rw_bodybars_k21_whole_axes_and_pitches.Holds := by
  w_on; o_law; k_head; (case hw => w_witness2)
  k_fill
  refine Z.walk_ofG (l := PySem.Challenge.rw_bodybars_k21_whole_axes_and_pitches) (n := 63) (k := 6) (x := "script") (CX := fun w => L2.CX PySem.Challenge.rw_bodybars_k21_whole_axes_and_pitches.prog w) ["are_integers", "is_place"] rfl (by decide) rfl ⟨rfl, by decide, by decide⟩ (by decide +kernel) (fun w h Y => PySem.W.kIn_of Y) ?L ?F ?C
  case L =>
    intro w a o e
    exact Z.noList_of (by first | kernel_rfl | rfl) e
  case C =>
    intro w H s e s' z
    exact Z.cx_no z
  case F =>
    intro w mg fa h KX G hmg HT
    refine' Z.all_mk KX G hmg HT ?a_is_whole ?l_is_whole ?c_is_whole ?k_is_whole ?a_is_row ?l_is_row ?c_is_row ?k_is_row ?a_are_integers ?l_are_integers ?c_are_integers ?k_are_integers ?a_is_dimension ?l_is_dimension ?c_is_dimension ?k_is_dimension ?a_need_dimension ?l_need_dimension ?c_need_dimension ?k_need_dimension ?a_need_space ?l_need_space ?c_need_space ?k_need_space ?a_place_width ?l_place_width ?c_place_width ?k_place_width ?a_is_place ?l_is_place ?c_is_place ?k_is_place ?a_dot ?l_dot ?c_dot ?k_dot ?a_content ?l_content ?c_content ?k_content ?a_need_place_at ?l_need_place_at ?c_need_place_at ?k_need_place_at ?a_cross ?l_cross ?c_cross ?k_cross ?a_lowest ?l_lowest ?c_lowest ?k_lowest ?a_need_row ?l_need_row ?c_need_row ?k_need_row ?a_velocity_by ?l_velocity_by ?c_velocity_by ?k_velocity_by ?a_axis ?l_axis ?c_axis ?k_axis ?a_pitch ?l_pitch ?c_pitch ?k_pitch ?a__law_mixed ?l__law_mixed ?c__law_mixed ?k__law_mixed ?a__law_folded ?l__law_folded ?c__law_folded ?k__law_folded ?a__law_draw ?l__law_draw ?c__law_draw ?k__law_draw ?a__law_begun ?l__law_begun ?c__law_begun ?k__law_begun ?a__law_like ?l__law_like ?c__law_like ?k__law_like ?a__law_of ?l__law_of ?c__law_of ?k__law_of ?a__law_four_place ?l__law_four_place ?c__law_four_place ?k__law_four_place ?a__law_four_gcd ?l__law_four_gcd ?c__law_four_gcd ?k__law_four_gcd ?a__law_four_short ?l__law_four_short ?c__law_four_short ?k__law_four_short ?a__law_three_number ?l__law_three_number ?c__law_three_number ?k__law_three_number ?a__law_three_dot ?l__law_three_dot ?c__law_three_dot ?k__law_three_dot ?a__law_three_cross ?l__law_three_cross ?c__law_three_cross ?k__law_three_cross ?a__law_three_plus ?l__law_three_plus ?c__law_three_plus ?k__law_three_plus ?a__law_three_is_row ?l__law_three_is_row ?c__law_three_is_row ?k__law_three_is_row ?a__law_three_bad ?l__law_three_bad ?c__law_three_bad ?k__law_three_bad ?a__law_motion ?l__law_motion ?c__law_motion ?k__law_motion ?a__law_scaled ?l__law_scaled ?c__law_scaled ?k__law_scaled ?a__law_axis_right ?l__law_axis_right ?c__law_axis_right ?k__law_axis_right ?a__law_heard ?l__law_heard ?c__law_heard ?k__law_heard ?a_velocity ?l_velocity ?c_velocity ?k_velocity ?a__law_beside_right ?l__law_beside_right ?c__law_beside_right ?k__law_beside_right ?a_law ?l_law ?c_law ?k_law ?z_abs ?z_all ?z_any ?z_bool ?z_enumerate ?z_int ?z_isinstance ?z_len ?z_list ?z_range ?z_repr ?z_sum ?z_tuple ?z_type ?z_zip ?v_FARTHEST ?v_gcd ?aC_BadPlace ?xL_BadPlace ?rv_BadPlace ?sa_BadPlace ?ga_BadPlace ?gg_BadPlace ?nb_BadPlace_index ?iC_BadPlace ?tI_BadPlace ?lI_BadPlace ?cI_BadPlace ?kI_BadPlace ?kC_BadPlace ?eC_BadPlace ?tC_BadPlace ?hC_BadPlace ?uC_BadPlace ?sC_BadPlace ?aC_BadRow ?xL_BadRow ?rv_BadRow ?sa_BadRow ?ga_BadRow ?gg_BadRow ?nb_BadRow_index ?iC_BadRow ?tI_BadRow ?lI_BadRow ?cI_BadRow ?kI_BadRow ?kC_BadRow ?eC_BadRow ?tC_BadRow ?hC_BadRow ?uC_BadRow ?sC_BadRow ?aC_BodyError ?uC_BodyError ?tC_BodyError ?ha_BadRow ?hm_BadRow ?hn ?ht ?ki_BadRow_BodyError
    (case a_is_whole => k_is)
    (case l_is_whole => k_is)
    (case c_is_whole => k_is)
    (case k_is_whole => k_is)
    (case a_is_row => k_is)
    (case l_is_row => k_is)
    (case c_is_row => k_is)
    (case k_is_row => k_is)
    (case a_are_integers => k_is)
    (case l_are_integers => k_is)
    (case c_are_integers => k_is)
    (case k_are_integers => k_is)
    (case a_is_dimension => k_is)
    (case l_is_dimension => k_is)
    (case c_is_dimension => k_is)
    (case k_is_dimension => k_is)
    (case a_need_dimension => k_is)
    (case l_need_dimension => k_is)
    (case c_need_dimension => k_is)
    (case k_need_dimension => k_is)
    (case a_need_space => k_is)
    (case l_need_space => k_is)
    (case c_need_space => k_is)
    (case k_need_space => k_is)
    (case a_place_width => k_is)
    (case l_place_width => k_is)
    (case c_place_width => k_is)
    (case k_place_width => k_is)
    (case a_is_place => k_is)
    (case l_is_place => k_is)
    (case c_is_place => k_is)
    (case k_is_place => k_is)
    (case a_dot => k_is)
    (case l_dot => k_is)
    (case c_dot => k_is)
    (case k_dot => k_is)
    (case a_content => k_is)
    (case l_content => k_is)
    (case c_content => k_is)
    (case k_content => k_is)
    (case a_need_place_at => k_is)
    (case l_need_place_at => k_is)
    (case c_need_place_at => k_is)
    (case k_need_place_at => k_is)
    (case a_cross => k_is)
    (case l_cross => k_is)
    (case c_cross => k_is)
    (case k_cross => k_is)
    (case a_lowest => k_is)
    (case l_lowest => k_is)
    (case c_lowest => k_is)
    (case k_lowest => k_is)
    (case a_need_row => k_is)
    (case l_need_row => k_is)
    (case c_need_row => k_is)
    (case k_need_row => k_is)
    (case a_velocity_by => k_is)
    (case l_velocity_by => k_is)
    (case c_velocity_by => k_is)
    (case k_velocity_by => k_is)
    (case a_axis => k_is)
    (case l_axis => k_is)
    (case c_axis => k_is)
    (case k_axis => k_is)
    (case a_pitch => k_is)
    (case l_pitch => k_is)
    (case c_pitch => k_is)
    (case k_pitch => k_is)
    (case a__law_mixed => k_is)
    (case l__law_mixed => k_is)
    (case c__law_mixed => k_is)
    (case k__law_mixed => k_is)
    (case a__law_folded => k_is)
    (case l__law_folded => k_is)
    (case c__law_folded => k_is)
    (case k__law_folded => k_is)
    (case a__law_draw => k_is)
    (case l__law_draw => k_is)
    (case c__law_draw => k_is)
    (case k__law_draw => k_is)
    (case a__law_begun => k_is)
    (case l__law_begun => k_is)
    (case c__law_begun => k_is)
    (case k__law_begun => k_is)
    (case a__law_like => k_is)
    (case l__law_like => k_is)
    (case c__law_like => k_is)
    (case k__law_like => k_is)
    (case a__law_of => k_is)
    (case l__law_of => k_is)
    (case c__law_of => k_is)
    (case k__law_of => k_is)
    (case a__law_four_place => k_is)
    (case l__law_four_place => k_is)
    (case c__law_four_place => k_is)
    (case k__law_four_place => k_is)
    (case a__law_four_gcd => k_is)
    (case l__law_four_gcd => k_is)
    (case c__law_four_gcd => k_is)
    (case k__law_four_gcd => k_is)
    (case a__law_four_short => k_is)
    (case l__law_four_short => k_is)
    (case c__law_four_short => k_is)
    (case k__law_four_short => k_is)
    (case a__law_three_number => k_is)
    (case l__law_three_number => k_is)
    (case c__law_three_number => k_is)
    (case k__law_three_number => k_is)
    (case a__law_three_dot => k_is)
    (case l__law_three_dot => k_is)
    (case c__law_three_dot => k_is)
    (case k__law_three_dot => k_is)
    (case a__law_three_cross => k_is)
    (case l__law_three_cross => k_is)
    (case c__law_three_cross => k_is)
    (case k__law_three_cross => k_is)
    (case a__law_three_plus => k_is)
    (case l__law_three_plus => k_is)
    (case c__law_three_plus => k_is)
    (case k__law_three_plus => k_is)
    (case a__law_three_is_row => k_is)
    (case l__law_three_is_row => k_is)
    (case c__law_three_is_row => k_is)
    (case k__law_three_is_row => k_is)
    (case a__law_three_bad => k_is)
    (case l__law_three_bad => k_is)
    (case c__law_three_bad => k_is)
    (case k__law_three_bad => k_is)
    (case a__law_motion => k_is)
    (case l__law_motion => k_is)
    (case c__law_motion => k_is)
    (case k__law_motion => k_is)
    (case a__law_scaled => k_is)
    (case l__law_scaled => k_is)
    (case c__law_scaled => k_is)
    (case k__law_scaled => k_is)
    (case a__law_axis_right => k_is)
    (case l__law_axis_right => k_is)
    (case c__law_axis_right => k_is)
    (case k__law_axis_right => k_is)
    (case a__law_heard => k_is)
    (case l__law_heard => k_is)
    (case c__law_heard => k_is)
    (case k__law_heard => k_is)
    (case a_velocity => k_is)
    (case l_velocity => k_is)
    (case c_velocity => k_is)
    (case k_velocity => k_is)
    (case a__law_beside_right => k_is)
    (case l__law_beside_right => k_is)
    (case c__law_beside_right => k_is)
    (case k__law_beside_right => k_is)
    (case a_law => k_is)
    (case l_law => k_is)
    (case c_law => k_is)
    (case k_law => k_is)
    (case z_abs => k_is)
    (case z_all => k_is)
    (case z_any => k_is)
    (case z_bool => k_is)
    (case z_enumerate => k_is)
    (case z_int => k_is)
    (case z_isinstance => k_is)
    (case z_len => k_is)
    (case z_list => k_is)
    (case z_range => k_is)
    (case z_repr => k_is)
    (case z_sum => k_is)
    (case z_tuple => k_is)
    (case z_type => k_is)
    (case z_zip => k_is)
    (case v_FARTHEST => k_is)
    (case v_gcd => k_is)
    (case aC_BadPlace => k_is)
    (case xL_BadPlace => k_is)
    (case rv_BadPlace => first | k_is | rfl | decide +kernel)
    (case sa_BadPlace => k_is)
    (case ga_BadPlace => k_is)
    (case gg_BadPlace => k_is)
    (case nb_BadPlace_index => k_is)
    (case iC_BadPlace => k_is)
    (case tI_BadPlace => k_is)
    (case lI_BadPlace => k_is)
    (case cI_BadPlace => k_is)
    (case kI_BadPlace => k_is)
    (case kC_BadPlace => k_is)
    (case eC_BadPlace => k_is)
    (case tC_BadPlace => k_is)
    (case hC_BadPlace => k_is)
    (case uC_BadPlace => k_is)
    (case sC_BadPlace => k_is)
    (case aC_BadRow => k_is)
    (case xL_BadRow => k_is)
    (case rv_BadRow => first | k_is | rfl | decide +kernel)
    (case sa_BadRow => k_is)
    (case ga_BadRow => k_is)
    (case gg_BadRow => k_is)
    (case nb_BadRow_index => k_is)
    (case iC_BadRow => k_is)
    (case tI_BadRow => k_is)
    (case lI_BadRow => k_is)
    (case cI_BadRow => k_is)
    (case kI_BadRow => k_is)
    (case kC_BadRow => k_is)
    (case eC_BadRow => k_is)
    (case tC_BadRow => k_is)
    (case hC_BadRow => k_is)
    (case uC_BadRow => k_is)
    (case sC_BadRow => k_is)
    (case aC_BodyError => k_is)
    (case uC_BodyError => k_is)
    (case tC_BodyError => k_is)
    (case ha_BadRow => k_is)
    (case hm_BadRow => k_is)
    (case hn => k_is)
    (case ht => k_is)
    (case ki_BadRow_BodyError => k_is)
