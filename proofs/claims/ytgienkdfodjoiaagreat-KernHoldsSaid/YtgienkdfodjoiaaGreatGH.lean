/- Contract of cgroup's Remove. -/
import Derived.Test.YtgienkdfodjoiaaGreatGG
import Derived.Test.YtgienkdfodjoiaaGreatGC2
namespace Go.Proofs.YtgienkdfodjoiaaGreat.Cg
open Go.RowKit Go.Shelf
theorem unnote_any (S : St) (x : ByteArray) (i : Nat) (w : World) (h : Gs w S) (hx : S.ns[i]? = some x) (hs : x.size ≤ 1000) (hc : S.c ≤ 900000) :
    Calls Tryz.prog 86 #[.pointer (some ⟨S.bt, 3, none⟩), .int .i64 i] w fun e w' => e = .returned (.tuple #[]) ∧ ∃ nv, Goes S w { S with nv := nv, ns := S.ns.eraseIdx i } w' 0 := by
  rcases Nat.eq_zero_or_pos i with rfl | hi
  · cases hn : S.ns with
    | nil => rw [hn] at hx; simp at hx
    | cons y r =>
      have e1 : y = x := by rw [hn] at hx; simpa using hx
      have := unnote0 S x r w h (by rw [hn, e1]) hs
      rw [hn] at this
      exact this
  · exact unnoteI S x i w h hx hi hs hc
end Go.Proofs.YtgienkdfodjoiaaGreat.Cg
