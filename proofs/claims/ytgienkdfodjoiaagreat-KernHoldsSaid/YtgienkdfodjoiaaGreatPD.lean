/- Contracts of package proc's All with the law's closure; the law's all. -/
import Derived.Test.YtgienkdfodjoiaaGreatPC
import Derived.Test.YtgienkdfodjoiaaGreatShelfKp
namespace Go.Proofs.YtgienkdfodjoiaaGreat.Pc
open Go.RowKit Go.Shelf
variable {X : Nat → Option Value}
def prsC (l : Ps) : List Value := l.flatMap prC
theorem prsC_snoc (l : Ps) (p : Pr) : prsC (l ++ [p]) = prsC l ++ prC p := by simp [prsC]
theorem prsC_len (l : Ps) : (prsC l).length = l.length * 6 := by
  induction l with
  | nil => rfl
  | cons p r ih => simp only [prsC, List.flatMap_cons, List.length_append] at ih ⊢; rw [ih]; simp [prC]; omega
theorem keys_Dm (l : Ps) : intKeys (Dm l) = l.map (·.pid) := by
  show List.map _ (List.map ent l) = _
  rw [List.map_map]
  rfl
theorem keys_sorted {l : Ps} (hs : Srt l) {ss : List Int} (hp : ss.Perm (intKeys (Dm l))) : ss.mergeSort (fun x y => decide (x ≤ y)) = l.map (·.pid) := by
  rw [keys_Dm] at hp
  rw [mergeSort_of_perm_i hp]
  refine List.mergeSort_of_pairwise ?_
  unfold Srt at hs
  rw [List.pairwise_map]
  exact hs.imp (fun h => by simp only [leI, decide_eq_true_eq]; omega)
theorem infoP : (Tryz.prog.info? 53).map (fun i => (i.zero, i.size, i.bytes)) = some (some (.agg #[.int .i64 0, .int .i64 0, .string ⟨#[]⟩, .bool false, .int .i64 0, .string ⟨#[]⟩]), 6, 64) := by kernel_rfl
theorem six_new (w : World) (a b c d e f : Value) (t : TypeId) : ∀ j u, [a, b, c, d, e, f][j]? = some u → (w.alloc (.cells #[a, b, c, d, e, f] t)).cell? ((⟨w.heap.size, 0, none⟩ : Addr).add j) = some u := by
  intro j u hj
  match j, hj with
  | 0, hj => simp at hj; subst hj; simp [Addr.add]
  | 1, hj => simp at hj; subst hj; simp [Addr.add]
  | 2, hj => simp at hj; subst hj; simp [Addr.add]
  | 3, hj => simp at hj; subst hj; simp [Addr.add]
  | 4, hj => simp at hj; subst hj; simp [Addr.add]
  | 5, hj => simp at hj; subst hj; simp [Addr.add]
theorem lk_at {l : Ps} (hs : Srt l) {k : Nat} {x : Pr} (h : l[k]? = some x) : lk l x.pid = some x := by
  induction l generalizing k with
  | nil => simp at h
  | cons a r ih =>
    obtain ⟨h1, h2⟩ := List.pairwise_cons.1 hs
    unfold lk
    rw [List.find?_cons]
    cases k with
    | zero => simp at h; subst h; simp
    | succ k =>
      simp at h
      have := h1 x (List.mem_of_getElem? h)
      rw [decide_eq_false (by omega)]
      exact ih h2 h
/-- The keys of a table's map, in their order, in memory. -/
theorem row_keys {w : World} {base : Nat} {l : Ps} {vk : Value} {ss : List Int} (hs : Srt l) (hp : ss.Perm (intKeys (Dm l))) (hrow : w.ownsRow base 3 1 vk ss.length ((ss.mergeSort (fun x y => decide (x ≤ y))).map encZ)) (hnil : vk = .slice none 0 0 ↔ ss = []) :
    ∃ a gk cap, vk = .slice a l.length cap ∧ (0 < l.length → a = some ⟨gk, 0, none⟩ ∧ base ≤ gk) ∧ ∀ (k : Nat) (x : Pr), l[k]? = some x → w.cell? ⟨gk, k, none⟩ = some (.int .i64 x.pid) := by
  have hl : ss.length = l.length := by rw [hp.length_eq, keys_Dm]; simp
  rw [keys_sorted hs hp, hl] at hrow
  cases hn : l.length with
  | zero =>
    have : ss = [] := List.eq_nil_of_length_eq_zero (by omega)
    refine ⟨none, 0, 0, hnil.2 this, fun h => absurd h (by omega), fun k x hx => ?_⟩
    rw [List.eq_nil_of_length_eq_zero hn] at hx
    simp at hx
  | succ m =>
    rw [hn] at hrow
    obtain ⟨g, cap, rfl⟩ := ownsRow_succ hrow
    refine ⟨_, g, cap, rfl, fun _ => ⟨rfl, (hrow.lt g rfl).1⟩, fun k x hx => ?_⟩
    have := hrow.cells (g := g) rfl k (.int .i64 x.pid) (by simp [hx])
    by_cases h : k = 0
    · subst h; simpa [Addr.add] using this
    · simpa [Addr.add, h] using this
/-- The territory of the closure: its own variable, and what is new. -/
def Tc (B pa k : Nat) : Prop := k = pa ∨ B ≤ k
theorem field_pr (p : Pr) (W : World) : (Instr.field 154 (psV p) 0).run Tryz.prog W = .ok (prV p) W := by
  have ha : ∀ w, (isAgg 53).run Tryz.prog w = .ok true w := fun w => by kernel_rfl
  have hz : ∀ w, (sizeOf 53).run Tryz.prog w = .ok 6 w := fun w => by kernel_rfl
  simp [Instr.field, run_underlying Tryz.underlying154, psV, prV, go_sem, part, ha, hz]
  rfl
theorem take_snoc {l : Ps} {k : Nat} {x : Pr} (h : l[k]? = some x) : l.take (k + 1) = l.take k ++ [x] := by rw [List.take_add_one, h]; rfl
end Go.Proofs.YtgienkdfodjoiaaGreat.Pc
