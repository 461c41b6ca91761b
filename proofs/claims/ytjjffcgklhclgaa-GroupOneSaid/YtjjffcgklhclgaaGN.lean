/- Groups of a few names, plain. -/
import Derived.Test.YtjjffcgklhclgaaGK
namespace Go.Proofs.Ytjjffcgklhclgaa
open Go.RowKit Go.Shelf
def nm (k : Nat) : ByteArray := ⟨#[UInt8.ofNat (97 + k)]⟩
theorem nm_inj {i j : Nat} (hi : i < 8) (hj : j < 8) (h : nm i = nm j) : i = j := by
  have h2 : UInt8.ofNat (97 + i) = UInt8.ofNat (97 + j) := by
    have := congrArg (fun x : ByteArray => x.data.toList) h
    simpa [nm] using this
  have := congrArg UInt8.toNat h2
  simp only [UInt8.toNat_ofNat'] at this
  omega
theorem nm_size (k : Nat) : (nm k).size = 1 := rfl
theorem nm_ne (k : Nat) : nm k ≠ noName := fun h => by
  have := congrArg ByteArray.size h
  rw [nm_size] at this
  cases this
/-- f k: the members of the group of the k-th name; none: it isn't there. -/
structure Q (M : Nat) (f : Nat → Option (List Int)) (l : Gl) : Prop where
  dn : ∀ g ∈ l, ∃ k, k < M ∧ g.name = nm k ∧ f k = some g.pids
  up : ∀ k, k < M → ∀ ps, f k = some ps → ∃ g ∈ l, g.name = nm k
def upd {α : Type} (f : Nat → α) (k : Nat) (v : α) (j : Nat) : α := if j = k then v else f j
theorem upd_same {α : Type} (f : Nat → α) (k : Nat) (v : α) : upd f k v k = v := if_pos rfl
theorem upd_ne {α : Type} (f : Nat → α) {k j : Nat} (v : α) (h : j ≠ k) : upd f k v j = f j := if_neg h
section
variable {M : Nat} {f : Nat → Option (List Int)} {l : Gl} {ns : List ByteArray}
theorem Q.ext {f' : Nat → Option (List Int)} (q : Q M f l) (h : ∀ k, k < M → f' k = f k) : Q M f' l :=
  ⟨fun g hg => by obtain ⟨k, a, b, c⟩ := q.dn g hg; exact ⟨k, a, b, by rw [h k a]; exact c⟩, fun k hk ps hp => q.up k hk ps (by rw [← h k hk]; exact hp)⟩
theorem Q.get (q : Q M f l) (hM : M ≤ 8) {k : Nat} (hk : k < M) {g : G} (hg : g ∈ l) (hn : g.name = nm k) : f k = some g.pids := by
  obtain ⟨j, a, b, c⟩ := q.dn g hg
  have : j = k := nm_inj (by omega) (by omega) (b.symm.trans hn)
  rw [← this]; exact c
theorem Q.fnd (q : Q M f l) (hM : M ≤ 8) {k : Nat} (hk : k < M) : (fnd l (nm k)).map G.pids = f k := by
  cases e : Ytjjffcgklhclgaa.fnd l (nm k) with
  | none =>
    cases hf : f k with
    | none => rfl
    | some ps =>
      obtain ⟨g, hg, hn⟩ := q.up k hk ps hf
      exact absurd hn (fnd_none.1 e g hg)
  | some g => exact (q.get hM hk (fnd_mem e) (fnd_name e)).symm
theorem Q.fnd_some (q : Q M f l) (hM : M ≤ 8) {k : Nat} (hk : k < M) {ps : List Int} (hf : f k = some ps) : ∃ g, Ytjjffcgklhclgaa.fnd l (nm k) = some g ∧ g.pids = ps := by
  have := q.fnd hM hk
  rw [hf] at this
  cases e : Ytjjffcgklhclgaa.fnd l (nm k) with
  | none => rw [e] at this; cases this
  | some g => rw [e] at this; exact ⟨g, rfl, by simpa using this⟩
theorem Q.fnd_none (q : Q M f l) (hM : M ≤ 8) {k : Nat} (hk : k < M) (hf : f k = none) : Ytjjffcgklhclgaa.fnd l (nm k) = none := by
  have := q.fnd hM hk
  rw [hf] at this
  cases e : Ytjjffcgklhclgaa.fnd l (nm k) with
  | none => rfl
  | some g => rw [e] at this; cases this
theorem Q.hm_some (q : Q M f l) (hM : M ≤ 8) (w : Wf l ns) {k : Nat} (hk : k < M) {ps : List Int} (hf : f k = some ps) {p : Int} (hp : p ∈ ps) : ∃ g, hm l p = some g ∧ g.name = nm k ∧ g.pids = ps := by
  obtain ⟨g, h1, h2⟩ := q.fnd_some hM hk hf
  exact ⟨g, w.hm_of (fnd_mem h1) (by rw [h2]; exact hp), fnd_name h1, h2⟩
theorem Q.hm_none (q : Q M f l) {p : Int} (h : ∀ k, k < M → ∀ ps, f k = some ps → p ∉ ps) : hm l p = none := by
  rw [Ytjjffcgklhclgaa.hm_none]
  intro g hg
  obtain ⟨k, a, _, c⟩ := q.dn g hg
  exact h k a _ c
theorem Q.hm_none' (q : Q M f l) (hM : M ≤ 8) {p : Int} (h : hm l p = none) {k : Nat} (hk : k < M) {ps : List Int} (hf : f k = some ps) : p ∉ ps := by
  obtain ⟨g, h1, h2⟩ := q.fnd_some hM hk hf
  rw [← h2]
  exact Ytjjffcgklhclgaa.hm_none.1 h g (fnd_mem h1)
theorem Q.make (q : Q M f l) {k : Nat} (hk : k < M) (hM : M ≤ 8) (b : Nat) : Q M (upd f k (some [])) (insG ⟨nm k, b, []⟩ (remG l (nm k))) := by
  refine ⟨fun g hg => ?_, fun j hj ps hp => ?_⟩
  · rcases mem_insG.1 hg with rfl | hg
    · exact ⟨k, hk, rfl, upd_same _ _ _⟩
    · obtain ⟨h1, h2⟩ := List.mem_filter.1 hg
      obtain ⟨j, a, b, c⟩ := q.dn g h1
      refine ⟨j, a, b, ?_⟩
      rw [upd_ne _ _ (fun e => by rw [b, e] at h2; simp at h2)]
      exact c
  · by_cases e : j = k
    · exact ⟨_, mem_insG.2 (.inl rfl), by rw [e]⟩
    · rw [upd_ne _ _ e] at hp
      obtain ⟨g, hg, hn⟩ := q.up j hj ps hp
      refine ⟨g, mem_insG.2 (.inr (List.mem_filter.2 ⟨hg, ?_⟩)), hn⟩
      simp only [Bool.not_eq_true', decide_eq_false_iff_not]
      rw [hn]
      exact fun e2 => e (nm_inj (by omega) (by omega) e2)
theorem remG_none {s : ByteArray} (h : Ytjjffcgklhclgaa.fnd l s = none) : remG l s = l := by
  unfold remG
  rw [List.filter_eq_self]
  intro g hg
  simp [Ytjjffcgklhclgaa.fnd_none.1 h g hg]
theorem Q.gone (q : Q M f l) (p : Int) : Q M (fun k => (f k).map (remI p)) (gonL l p) := by
  refine ⟨fun g hg => ?_, fun k hk ps hp => ?_⟩
  · obtain ⟨g0, h1, rfl⟩ := List.mem_map.1 hg
    obtain ⟨k, a, b, c⟩ := q.dn g0 h1
    exact ⟨k, a, b, by rw [c]; rfl⟩
  · cases hf : f k with
    | none => rw [hf] at hp; cases hp
    | some qs =>
      obtain ⟨g, hg, hn⟩ := q.up k hk qs hf
      exact ⟨{ g with pids := remI p g.pids }, List.mem_map_of_mem (f := fun g : G => { g with pids := remI p g.pids }) hg, hn⟩
theorem Q.add (q : Q M f l) (hM : M ≤ 8) {k : Nat} (hk : k < M) {ps : List Int} (hf : f k = some ps) (p : Int) : Q M (upd f k (some (insI p ps))) (addL l p (nm k)) := by
  refine ⟨fun g hg => ?_, fun j hj qs hq => ?_⟩
  · obtain ⟨g0, h1, rfl⟩ := List.mem_map.1 hg
    obtain ⟨j, a, b, c⟩ := q.dn g0 h1
    refine ⟨j, a, by rw [add_name]; exact b, ?_⟩
    by_cases e : j = k
    · subst e
      rw [upd_same, if_pos b]
      rw [hf] at c
      cases c
      rfl
    · rw [upd_ne _ _ e, if_neg (fun e2 => e (nm_inj (by omega) (by omega) (b.symm.trans e2)))]
      exact c
  · have : ∃ rs, f j = some rs := by
      by_cases e : j = k
      · exact ⟨ps, by rw [e]; exact hf⟩
      · rw [upd_ne _ _ e] at hq; exact ⟨_, hq⟩
    obtain ⟨rs, hr⟩ := this
    obtain ⟨g, hg, hn⟩ := q.up j hj rs hr
    exact ⟨(if g.name = nm k then { g with pids := insI p g.pids } else g), List.mem_map_of_mem (f := fun g : G => if g.name = nm k then { g with pids := insI p g.pids } else g) hg, by rw [add_name]; exact hn⟩
theorem Q.rem (q : Q M f l) (hM : M ≤ 8) {k : Nat} (hk : k < M) : Q M (upd f k none) (remG l (nm k)) := by
  refine ⟨fun g hg => ?_, fun j hj qs hq => ?_⟩
  · obtain ⟨h1, h2⟩ := List.mem_filter.1 hg
    obtain ⟨j, a, b, c⟩ := q.dn g h1
    exact ⟨j, a, b, by rw [upd_ne _ _ (fun e => by rw [b, e] at h2; simp at h2)]; exact c⟩
  · by_cases e : j = k
    · rw [e, upd_same] at hq; cases hq
    · rw [upd_ne _ _ e] at hq
      obtain ⟨g, hg, hn⟩ := q.up j hj qs hq
      refine ⟨g, List.mem_filter.2 ⟨hg, ?_⟩, hn⟩
      simp only [Bool.not_eq_true', decide_eq_false_iff_not]
      rw [hn]
      exact fun e2 => e (nm_inj (by omega) (by omega) e2)
/-- Put of one that is of the groups, or not. -/
theorem Q.put (q : Q M f l) (hM : M ≤ 8) {k : Nat} (hk : k < M) {ps : List Int} (hf : f k = some ps) {p : Int} (h2 : 2 ≤ p) :
    putE l p (nm k) = 0 ∧ (p ∉ ps → putL l p (nm k) = addL (gonL l p) p (nm k) ∧ putN l ns p (nm k) = gonN l ns p ∧ Q M (upd (fun j => (f j).map (remI p)) k (some (insI p ps))) (putL l p (nm k))) ∧ (p ∈ ps → putL l p (nm k) = l ∧ putN l ns p (nm k) = ns) := by
  obtain ⟨g, h1, h3⟩ := q.fnd_some hM hk hf
  unfold putE putL putN
  rw [h1]
  refine ⟨if_pos ⟨rfl, h2⟩, fun hp => ?_, fun hp => ?_⟩
  · have hc : 2 ≤ p ∧ p ∉ g.pids := ⟨h2, by rw [h3]; exact hp⟩
    simp only [if_pos hc]
    refine ⟨trivial, trivial, ?_⟩
    have := (q.gone p).add hM hk (ps := remI p ps) (by rw [hf]; rfl) p
    rw [remI_none hp] at this
    exact this
  · have hc : ¬ (2 ≤ p ∧ p ∉ g.pids) := fun c => c.2 (by rw [h3]; exact hp)
    simp only [if_neg hc]
    exact ⟨trivial, trivial⟩
theorem Q.mOf (q : Q M f l) (hM : M ≤ 8) {k : Nat} (hk : k < M) : Ytjjffcgklhclgaa.mOf l (nm k) = (f k).getD [] := by
  unfold Ytjjffcgklhclgaa.mOf
  rw [q.fnd hM hk]
/-- The first empty one of the notes. -/
theorem Q.emp (q : Q M f l) (hM : M ≤ 8) : ∀ (N : List Nat), (∀ k ∈ N, k < M) → ∀ E : List Nat, N.filter (fun k => decide ((f k).getD [] = [])) = E →
    (E = [] → empR l (N.map nm) = (none, [])) ∧ ∀ k R, E = k :: R → ∃ N' : List Nat, empR l (N.map nm) = (some (nm k), N'.map nm) ∧ N'.filter (fun k => decide ((f k).getD [] = [])) = R ∧ ∀ j ∈ N', j ∈ N
  | [], _, E, hE => ⟨fun _ => rfl, fun k R h => by rw [h] at hE; cases hE⟩
  | j :: N, hN, E, hE => by
    have hj := hN j (by simp)
    have ih := Q.emp q hM N (fun k hk => hN k (by simp [hk]))
    show (_ → empR l (nm j :: N.map nm) = _) ∧ ∀ k R, _ → ∃ N' : List Nat, empR l (nm j :: N.map nm) = _ ∧ _
    unfold empR
    rw [q.mOf hM hj]
    rw [List.filter_cons] at hE
    by_cases e : (f j).getD [] = []
    · simp only [e, decide_true, if_true] at hE
      rw [if_pos e]
      refine ⟨fun h => (by rw [h] at hE; cases hE), fun k R h => ?_⟩
      rw [h] at hE
      cases hE
      exact ⟨N, rfl, rfl, fun x hx => by simp [hx]⟩
    · simp only [e, decide_false, Bool.false_eq_true, if_false] at hE
      rw [if_neg e]
      obtain ⟨i1, i2⟩ := ih E hE
      refine ⟨i1, fun k R h => ?_⟩
      obtain ⟨N', a, b, c⟩ := i2 k R h
      exact ⟨N', a, b, fun x hx => by simp [c x hx]⟩
end
end Go.Proofs.Ytjjffcgklhclgaa
