/- GroupOne: plain. -/
import Derived.Test.YtjjffcgklhclgaaGN
namespace Go.Proofs.Ytjjffcgklhclgaa
open Go.RowKit Go.Shelf
def pidsL : List Nat := [2, 3, 4, 5, 6, 7, 8, 9]
def selN (f : Nat → Nat) (k : Nat) : List Nat := pidsL.filter fun q => decide (f q = k + 1)
def sel (f : Nat → Nat) (k : Nat) : List Int := (selN f k).map fun (q : Nat) => (q : Int)
theorem mem_pidsL {q : Nat} : q ∈ pidsL ↔ 2 ≤ q ∧ q < 10 := by
  simp only [pidsL, List.mem_cons, List.not_mem_nil, or_false]
  omega
theorem mem_sel {f : Nat → Nat} {k : Nat} {x : Int} : x ∈ sel f k ↔ ∃ q : Nat, x = q ∧ 2 ≤ q ∧ q < 10 ∧ f q = k + 1 := by
  unfold sel selN
  rw [List.mem_map]
  constructor
  · rintro ⟨q, h, rfl⟩
    obtain ⟨h1, h2⟩ := List.mem_filter.1 h
    exact ⟨q, rfl, (mem_pidsL.1 h1).1, (mem_pidsL.1 h1).2, by simpa using h2⟩
  · rintro ⟨q, rfl, h1, h2, h3⟩
    exact ⟨q, List.mem_filter.2 ⟨mem_pidsL.2 ⟨h1, h2⟩, by simpa using h3⟩, rfl⟩
theorem srt_sel (f : Nat → Nat) (k : Nat) : (sel f k).Pairwise (· < ·) := by
  unfold sel selN
  rw [List.pairwise_map]
  refine List.Pairwise.filter _ ?_
  simp [pidsL]
theorem srt_ext : ∀ {l m : List Int}, l.Pairwise (· < ·) → m.Pairwise (· < ·) → (∀ x, x ∈ l ↔ x ∈ m) → l = m := by
  intro l m hl hm h
  exact List.Perm.eq_of_pairwise (le := fun a b : Int => a < b) (fun a b _ _ h1 h2 => by omega) hl hm ((List.perm_ext_iff_of_nodup (hl.imp (fun h => by omega)) (hm.imp (fun h => by omega))).2 h)
def fO (f : Nat → Nat) (k : Nat) : Option (List Int) := some (sel f k)
theorem rem_sel {f : Nat → Nat} {p : Nat} {k v : Nat} (hv : v ≠ k + 1) : remI (p : Int) (sel f k) = sel (upd f p v) k := by
  refine srt_ext (srt_remI (srt_sel f k)) (srt_sel _ _) (fun x => ?_)
  rw [mem_remI, mem_sel, mem_sel]
  constructor
  · rintro ⟨⟨q, rfl, a, b, c⟩, hne⟩
    exact ⟨q, rfl, a, b, by rw [upd_ne _ _ (fun e => hne (by rw [e]))]; exact c⟩
  · rintro ⟨q, rfl, a, b, c⟩
    by_cases e : q = p
    · subst e; rw [upd_same] at c; exact absurd c hv
    · rw [upd_ne _ _ e] at c
      exact ⟨⟨q, rfl, a, b, c⟩, fun h => e (by omega)⟩
theorem ins_sel {f : Nat → Nat} {p : Nat} {k : Nat} (h2 : 2 ≤ p) (h9 : p < 10) (hn : (p : Int) ∉ sel f k) : insI (p : Int) (sel f k) = sel (upd f p (k + 1)) k := by
  refine srt_ext (srt_insI (srt_sel f k) hn) (srt_sel _ _) (fun x => ?_)
  rw [mem_insI, mem_sel, mem_sel]
  constructor
  · rintro (rfl | ⟨q, rfl, a, b, c⟩)
    · exact ⟨p, rfl, h2, h9, upd_same _ _ _⟩
    · by_cases e : q = p
      · subst e; exact ⟨q, rfl, h2, h9, upd_same _ _ _⟩
      · exact ⟨q, rfl, a, b, by rw [upd_ne _ _ e]; exact c⟩
  · rintro ⟨q, rfl, a, b, c⟩
    by_cases e : q = p
    · exact .inl (by rw [e])
    · rw [upd_ne _ _ e] at c
      exact .inr ⟨q, rfl, a, b, c⟩
/-- How the notes are: names, four at most. -/
structure Po (f : Nat → Nat) (l : Gl) (ns : List ByteArray) : Prop where
  q : Q 4 (fO f) l
  n : ∃ N : List Nat, ns = N.map nm ∧ ∀ k ∈ N, k < 4
theorem Po.noted {f : Nat → Nat} {l : Gl} {ns : List ByteArray} (h : Po f l ns) (a : Int) : ∃ N : List Nat, gonN l ns a = N.map nm ∧ ∀ k ∈ N, k < 4 := by
  obtain ⟨N, rfl, hN⟩ := h.n
  unfold gonN
  cases e : hm l a with
  | none => exact ⟨N, rfl, hN⟩
  | some g =>
    show ∃ N' : List Nat, (if remI a g.pids = [] then noteP (N.map nm) g.name else N.map nm) = _ ∧ _
    split
    · obtain ⟨k, hk, hn, _⟩ := h.q.dn g (hm_mem e)
      rw [hn]
      unfold noteP
      split
      · exact ⟨N, rfl, hN⟩
      · exact ⟨N ++ [k], by simp, fun j hj => by
          rcases List.mem_append.1 hj with q | q
          · exact hN j q
          · simp at q; omega⟩
    · exact ⟨N, rfl, hN⟩
theorem Po.gone {f : Nat → Nat} {l : Gl} {ns : List ByteArray} (h : Po f l ns) (w : Wf l ns) {p : Nat} (h2 : 2 ≤ p) (h9 : p < 10) (hf : f p ≤ 4) : (hm l (p : Int)).isSome = decide (0 < f p) ∧ Po (upd f p 0) (gonL l p) (gonN l ns p) := by
  refine ⟨?_, (h.q.gone p).ext (fun k hk => ?_), h.noted _⟩
  · by_cases e : f p = 0
    · rw [h.q.hm_none (fun k hk ps q hp => by
        unfold fO at q
        cases q
        obtain ⟨q, e1, _, _, e2⟩ := mem_sel.1 hp
        have : q = p := by omega
        rw [this, e] at e2
        omega)]
      simp [e]
    · obtain ⟨g, hg, _⟩ := h.q.hm_some (by omega) w (k := f p - 1) (by omega) (ps := sel f (f p - 1)) rfl (p := (p : Int)) (mem_sel.2 ⟨p, rfl, h2, h9, by omega⟩)
      rw [hg]
      simp; omega
  · show some _ = some _
    rw [rem_sel (v := 0) (by omega)]
theorem Po.put {f : Nat → Nat} {l : Gl} {ns : List ByteArray} (h : Po f l ns) {p k : Nat} (h2 : 2 ≤ p) (h9 : p < 10) (hk : k < 4) : putE l p (nm k) = 0 ∧ Po (upd f p (k + 1)) (putL l p (nm k)) (putN l ns p (nm k)) := by
  obtain ⟨h1, ha, hb⟩ := h.q.put (ns := ns) (by omega) hk (ps := sel f k) rfl (p := (p : Int)) (by omega)
  refine ⟨h1, ?_⟩
  by_cases hp : (p : Int) ∈ sel f k
  · obtain ⟨e1, e2⟩ := hb hp
    rw [e1, e2]
    obtain ⟨q, e3, _, _, e4⟩ := mem_sel.1 hp
    have e5 : q = p := by omega
    rw [e5] at e4
    have : upd f p (k + 1) = f := by
      funext j
      by_cases e : j = p
      · rw [e, upd_same, e4]
      · exact upd_ne _ _ e
    rw [this]
    exact h
  · obtain ⟨e1, e2, e3⟩ := ha hp
    refine ⟨e3.ext (fun j hj => ?_), by rw [e2]; exact h.noted _⟩
    by_cases e : j = k
    · subst e
      rw [upd_same]
      show some _ = some _
      rw [ins_sel h2 h9 hp]
    · rw [upd_ne _ _ e]
      show some _ = some _
      rw [rem_sel (v := k + 1) (by omega)]
theorem few : ∀ (m : Nat) (N : List Nat), N.Nodup → (∀ k ∈ N, k < m) → N.length ≤ m
  | 0, N, _, h => by
    cases N with
    | nil => simp
    | cons a r => exact absurd (h a (by simp)) (by omega)
  | m + 1, N, hn, h => by
    have := few m (N.erase m) (hn.erase m) (fun k hk => by
      have h1 := h k (List.mem_of_mem_erase hk)
      have h2 : k ≠ m := fun e => by rw [e] at hk; exact (List.Nodup.not_mem_erase hn) hk
      omega)
    have := List.le_length_erase (l := N) (a := m)
    omega
theorem Po.few {f : Nat → Nat} {l : Gl} {ns : List ByteArray} (h : Po f l ns) (hn : ns.Nodup) : ns.length ≤ 4 := by
  obtain ⟨N, rfl, hN⟩ := h.n
  rw [List.length_map]
  refine Ytjjffcgklhclgaa.few 4 N ?_ hN
  unfold List.Nodup at hn
  rw [List.pairwise_map] at hn
  exact hn.imp (fun h e => h (by rw [e]))
/-- What Emptied tells. -/
theorem emp_tells (l : Gl) : ∀ ns : List ByteArray, ((empR l ns).1 = none → (empR l ns).2 = []) ∧ ∀ x, (empR l ns).1 = some x → mOf l x = [] ∧ x ∈ ns ∧ (empR l ns).2.length < ns.length ∧ ∀ y ∈ (empR l ns).2, y ∈ ns
  | [] => ⟨fun _ => rfl, fun x h => by cases h⟩
  | y :: r => by
    have ih := emp_tells l r
    unfold empR
    by_cases e : mOf l y = []
    · rw [if_pos e]
      refine ⟨fun h => (by cases h), fun x h => ?_⟩
      cases h
      exact ⟨e, by simp, by simp, fun z hz => by simp [hz]⟩
    · rw [if_neg e]
      refine ⟨ih.1, fun x h => ?_⟩
      obtain ⟨a, b, c, d⟩ := ih.2 x h
      exact ⟨a, by simp [b], by simp; omega, fun z hz => by simp [d z hz]⟩
/-- The first names. -/
def g1 (j : Nat) (k : Nat) : Option (List Int) := if k < j then some [] else none
theorem Q.o1 {j : Nat} {l : Gl} (q : Q 4 (g1 j) l) (hj : j < 4) : makeE l (nm j) = 0 ∧ ∀ b, Q 4 (g1 (j + 1)) (insG ⟨nm j, b, []⟩ l) := by
  have hn := q.fnd_none (by omega) hj (by unfold g1; rw [if_neg (by omega)])
  refine ⟨?_, fun b => ?_⟩
  · unfold makeE
    rw [if_neg (nm_ne _), hn]
    rfl
  · have := q.make hj (by omega) b
    rw [remG_none hn] at this
    refine this.ext (fun k hk => ?_)
    unfold g1
    by_cases e : k = j
    · subst e; rw [upd_same, if_pos (by omega)]
    · rw [upd_ne _ _ e]
      by_cases h : k < j
      · rw [if_pos h, if_pos (by omega)]
      · rw [if_neg h, if_neg (by omega)]
theorem Q.o0 : Q 4 (g1 0) [] := ⟨fun g hg => by simp at hg, fun k _ ps h => by simp [g1] at h⟩
theorem Q.o4 {l : Gl} (q : Q 4 (g1 4) l) : Po (fun _ => 0) l [] := ⟨q.ext (fun k hk => by
  show some (sel _ _) = _
  unfold g1
  rw [if_pos hk]
  rfl), [], rfl, fun k hk => by simp at hk⟩
end Go.Proofs.Ytjjffcgklhclgaa
