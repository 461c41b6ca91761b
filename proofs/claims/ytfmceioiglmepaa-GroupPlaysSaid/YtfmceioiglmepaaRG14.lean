/- The reference's Gone, said once; where Put lays a number. -/
import Derived.Test.YtfmceioiglmepaaRG13
import Derived.Test.YtfmceioiglmepaaRG7
namespace Go.Proofs.Ytfmceioiglmepaa
open Go.RowKit Go.Shelf Go.Lib
/-- What Gone makes of a state. -/
def GoneTo (R : Rt) (a : Int) (R' : Rt) : Prop :=
  (hmR R.l a = none ∧ R' = R) ∨ ∃ i x v nv, R.l[i]? = some x ∧ hmR R.l a = some x ∧ capV v ∧ R' = { R with l := R.l.set i ⟨x.nm, remI a x.ps, v⟩, nv := nv, ns := if remI a x.ps = [] then noteP R.ns x.nm else R.ns }
theorem hmR_mem {l : List RG} {a : Int} {x : RG} (h : hmR l a = some x) : x ∈ l := by
  unfold hmR at h
  exact List.mem_of_find?_eq_some h
theorem rgone_any (R : Rt) (a : Int) (w : World) (h : Rs w R) (hs : srtR R.l) (hl : R.l.length ≤ 1000) (hp : ∀ x ∈ R.l, x.ps.length ≤ 1000) (hn : R.ns.length ≤ 1000) :
    Calls Try.prog 15 #[.pointer (some ⟨R.b, 0, none⟩), .int .i64 a] w fun e w' => ∃ b R', e = .returned (.bool b) ∧ GoneTo R a R' ∧ RGoes R w R' w' := by
  cases hh : hmR R.l a with
  | none =>
    refine (rgone_no R a w h hl hp hh).mono ?_
    rintro e w' ⟨rfl, rfl⟩
    exact ⟨_, R, rfl, .inl ⟨hh, rfl⟩, RGoes.below h (Below.refl _ _)⟩
  | some x =>
    obtain ⟨i, hx⟩ := List.getElem?_of_mem (hmR_mem hh)
    refine (rgone_yes R a i x w h hs hl hp hn hx hh).mono ?_
    rintro e w' ⟨rfl, v, nv, hc, hg⟩
    exact ⟨_, _, rfl, .inr ⟨i, x, v, nv, hx, hh, hc, rfl⟩, hg⟩
theorem GoneTo.len {R R' : Rt} {a : Int} (h : GoneTo R a R') : R'.l.length = R.l.length := by
  rcases h with ⟨_, rfl⟩ | ⟨i, x, v, nv, _, _, _, rfl⟩
  · rfl
  · simp
theorem GoneTo.at {R R' : Rt} {a : Int} (h : GoneTo R a R') {j : Nat} {y : RG} (hy : R.l[j]? = some y) : ∃ z, R'.l[j]? = some z ∧ z.nm = y.nm ∧ z.ps.length ≤ y.ps.length := by
  rcases h with ⟨_, rfl⟩ | ⟨i, x, v, nv, hx, _, _, rfl⟩
  · exact ⟨y, hy, rfl, Nat.le_refl _⟩
  · by_cases e : i = j
    · subst e
      obtain rfl : x = y := by rw [hx] at hy; simpa using hy
      exact ⟨_, List.getElem?_set_self (List.getElem?_eq_some_iff.1 hx).1, rfl, List.length_filter_le _ _⟩
    · exact ⟨y, (List.getElem?_set_ne e).trans hy, rfl, Nat.le_refl _⟩
theorem GoneTo.cap {R R' : Rt} {a : Int} (h : GoneTo R a R') (hc : ∀ x ∈ R.l, capV x.v) : ∀ x ∈ R'.l, capV x.v := by
  rcases h with ⟨_, rfl⟩ | ⟨i, x, v, nv, hx, _, hv, rfl⟩
  · exact hc
  · intro y hy
    rcases List.mem_or_eq_of_mem_set hy with q | q
    · exact hc y q
    · rw [q]; exact hv
theorem GoneTo.names {R R' : Rt} {a : Int} (h : GoneTo R a R') : R'.l.map RG.nm = R.l.map RG.nm := by
  refine List.ext_getElem? (fun j => ?_)
  rw [List.getElem?_map, List.getElem?_map]
  cases hy : R.l[j]? with
  | some y =>
    obtain ⟨z, hz, hn, _⟩ := h.at hy
    rw [hz]; simp [hn]
  | none =>
    rw [List.getElem?_eq_none (by rw [h.len]; exact List.getElem?_eq_none_iff.1 hy)]
theorem GoneTo.srt {R R' : Rt} {a : Int} (h : GoneTo R a R') (hs : srtR R.l) : srtR R'.l := by
  have q : (R.l.map RG.nm).Pairwise (fun x y => sLt x y = true) := List.pairwise_map.2 hs
  rw [← h.names] at q
  exact List.pairwise_map.1 q
/-- How far Put's row is passed. -/
def kP (a : Int) : List Int → Nat
  | [] => 0
  | q :: r => if q < a then kP a r + 1 else 0
theorem kP_eq {a : Int} : ∀ {l : List Int} {i : Nat}, i ≤ l.length → (∀ j x, j < i → l[j]? = some x → x < a) → (∀ x, l[i]? = some x → ¬ x < a) → kP a l = i
  | [], i, hi, _, _ => by simp at hi; rw [hi]; rfl
  | y :: r, 0, hi, h1, h2 => by unfold kP; rw [if_neg (h2 y rfl)]
  | y :: r, i + 1, hi, h1, h2 => by
    unfold kP
    rw [if_pos (h1 0 y (by omega) rfl), kP_eq (l := r) (i := i) (by simp at hi; omega) (fun j x hj hx => h1 (j + 1) x (by omega) (by simpa using hx)) (fun x hx => h2 x (by simpa using hx))]
theorem kP_ins {a : Int} : ∀ {l : List Int}, a ∉ l → l.take (kP a l) ++ a :: l.drop (kP a l) = insI a l
  | [], _ => rfl
  | q :: r, h => by
    have h1 : a ≠ q := fun e => h (by rw [e]; exact List.mem_cons_self ..)
    have h2 : a ∉ r := fun e => h (List.mem_cons_of_mem _ e)
    unfold kP insI
    by_cases hq : q < a
    · rw [if_pos hq, if_neg (by omega)]
      simp only [List.take_succ_cons, List.drop_succ_cons, List.cons_append]
      rw [kP_ins h2]
    · rw [if_neg hq, if_pos (by omega)]
      rfl
end Go.Proofs.Ytfmceioiglmepaa
