/- (graph.ends).count, whole. -/
import Derived.Test.YtcfclknfnadgcaaDoorGF2
import Derived.Test.YtcfclknfnadgcaaDoorGF3
namespace Go.Proofs.YtcfclknfnadgcaaDoor
open Go.RowKit Go.Shelf Go.Lib
theorem ecount_any {w : World} {eb : Nat} {fb : ByteArray → Option Nat} {C : ByteArray → Ed → Int} {c : Nat} (h : En w eb fb C c) (x : ByteArray) (e : Ed) (he : okE e) {d : Int} (hd : d = 1 ∨ (d = -1 ∧ 1 ≤ C x e)) (hx : x.size ≤ 1000) (hc : c ≤ 900000) :
    Calls Tryd.prog 33 #[.map (some eb), .string x, edV e, .int .i64 d] w fun r w' => r = .returned (.tuple #[]) ∧ ∃ fb', En w' eb fb' (updC C x e d) (c + 1) ∧ EnGo w eb fb w' fb' := by
  obtain ⟨k, a, b⟩ := e
  rcases hd with rfl | ⟨rfl, h1⟩
  · cases hf : fb x with
    | none => exact ecount_new h x k a b he hf hx hc
    | some bl => exact ecount_more h x k a b he hf hx hc
  · cases hf : fb x with
    | none => have := h.non x hf (k, a, b); omega
    | some bl =>
      by_cases h2 : C x (k, a, b) = 1
      · exact ecount_last h x k a b he hf h2 hx hc
      · exact ecount_less h x k a b he hf (by omega) hx hc
end Go.Proofs.YtcfclknfnadgcaaDoor
