/- Names in order. -/
import Derived.Test.YtgienkdfodjoiaaGreatGL2
namespace Go.Proofs.YtgienkdfodjoiaaGreat.Cg
open Go.RowKit Go.Shelf
def srtG (l : Gl) : Prop := l.Pairwise fun g h => sLt g.name h.name = true
theorem srt_gon {l : Gl} (hs : srtG l) (a : Int) : srtG (gonL l a) := List.pairwise_map.2 hs
theorem srt_add {l : Gl} (hs : srtG l) (a : Int) (s : ByteArray) : srtG (addL l a s) := by
  unfold srtG addL
  rw [List.pairwise_map]
  exact hs.imp (fun {g h} q => by rw [add_name, add_name]; exact q)
theorem srt_rem {l : Gl} (hs : srtG l) (s : ByteArray) : srtG (remG l s) := List.Pairwise.filter _ hs
theorem sLt_tot {a b : ByteArray} (h : sLt a b = false) (hne : a ≠ b) : sLt b a = true := by
  unfold sLt at h ⊢
  rw [bytesLess_eq] at h ⊢
  simp only [decide_eq_false_iff_not, decide_eq_true_eq] at h ⊢
  have hne' : a.toList ≠ b.toList := fun e => hne (by rw [ByteArray.toList_eq, ByteArray.toList_eq] at e; exact ByteArray.ext (Array.toList_inj.1 e))
  rcases List.le_iff_lt_or_eq.1 (List.not_lt.1 h) with q | q
  · exact q
  · exact absurd q.symm hne'
theorem sLt_trans {a b c : ByteArray} (h : sLt a b = true) (k : sLt b c = true) : sLt a c = true := by
  unfold sLt at h k ⊢
  rw [bytesLess_eq] at h k ⊢
  simp only [decide_eq_true_eq] at h k ⊢
  exact List.lt_trans h k
theorem srt_ins {l : Gl} (hs : srtG l) {g : G} (hn : fnd l g.name = none) : srtG (insG g l) := by
  induction l with
  | nil => exact List.pairwise_singleton _ _
  | cons q r ih =>
    obtain ⟨h1, h2⟩ := List.pairwise_cons.1 hs
    unfold insG
    cases hc : sLt g.name q.name with
    | true =>
      rw [if_pos rfl]
      refine List.pairwise_cons.2 ⟨fun x hx => ?_, hs⟩
      rcases List.mem_cons.1 hx with rfl | hx
      · exact hc
      · exact sLt_trans hc (h1 x hx)
    | false =>
      rw [if_neg (by simp)]
      have hqn := fnd_none.1 hn q (by simp)
      refine List.pairwise_cons.2 ⟨fun x hx => ?_, ih h2 (by rw [fnd_none] at hn ⊢; exact fun y hy => hn y (by simp [hy]))⟩
      rcases mem_insG.1 hx with rfl | hx
      · exact sLt_tot hc (fun e => hqn e.symm)
      · exact h1 x hx
end Go.Proofs.YtgienkdfodjoiaaGreat.Cg
