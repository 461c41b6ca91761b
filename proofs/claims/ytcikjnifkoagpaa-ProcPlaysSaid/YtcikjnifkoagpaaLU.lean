/- ProcPlays: Exit and Kill of both, in one. -/
import Derived.Test.YtcikjnifkoagpaaLS
namespace Go.Proofs.Ytcikjnifkoagpaa
open Go.RowKit Go.Shelf
theorem exit_dual {w : World} {bt bm rb D : Nat} {room last : Int} {l : Ps} {wh ka kb : Int} {gg cc : ByteArray} {W : World} (h : Pq w bt bm rb D room last l (wh, ka, kb, gg, cc) W) (hl : last ≤ 1000000) (hk : bd ka) :
    ∃ ev : Int, ∀ V, Below W.heap.size W V → Calls Try.prog 11 #[.pointer (some ⟨bt, 0, none⟩), .int .i64 ka, .int .i64 kb] V fun e1 V1 => e1 = .returned (.int .i64 ev) ∧ (V1.cell? ⟨D, 1, none⟩ = some (.int .i64 ka) ∧ V1.cell? ⟨D, 2, none⟩ = some (.int .i64 kb)) ∧ Calls Try.prog 12 #[.pointer (some ⟨rb, 0, none⟩), .int .i64 ka, .int .i64 kb] V1 fun e2 V2 => e2 = .returned (.int .i64 ev) ∧ (V2.cell? ⟨D, 1, none⟩ = some (.int .i64 ka) ∧ V2.cell? ⟨D, 2, none⟩ = some (.int .i64 kb)) ∧ ∃ last' l', last' ≤ last + 1 ∧ Pq w bt bm rb D room last' l' (wh, ka, kb, gg, cc) V2 := by
  refine ⟨exE l ka, fun V b => (exit_two (h.below b) hl ka kb hk).mono ?_⟩
  rintro e V1 ⟨he, hd, h2⟩
  refine ⟨he, ⟨hd.2.1, hd.2.2.1⟩, h2.mono ?_⟩
  rintro e V2 ⟨he2, last', l', hle, hq2⟩
  exact ⟨he2, ⟨hq2.d.2.1, hq2.d.2.2.1⟩, last', l', hle, hq2⟩
theorem kill_dual {w : World} {bt bm rb D : Nat} {room last : Int} {l : Ps} {wh ka kb : Int} {gg cc : ByteArray} {W : World} (h : Pq w bt bm rb D room last l (wh, ka, kb, gg, cc) W) (hk : bd ka) :
    ∃ ev : Int, ∀ V, Below W.heap.size W V → Calls Try.prog 13 #[.pointer (some ⟨bt, 0, none⟩), .int .i64 ka, .int .i64 kb] V fun e1 V1 => e1 = .returned (.int .i64 ev) ∧ (V1.cell? ⟨D, 1, none⟩ = some (.int .i64 ka) ∧ V1.cell? ⟨D, 2, none⟩ = some (.int .i64 kb)) ∧ Calls Try.prog 14 #[.pointer (some ⟨rb, 0, none⟩), .int .i64 ka, .int .i64 kb] V1 fun e2 V2 => e2 = .returned (.int .i64 ev) ∧ (V2.cell? ⟨D, 1, none⟩ = some (.int .i64 ka) ∧ V2.cell? ⟨D, 2, none⟩ = some (.int .i64 kb)) ∧ ∃ last' l', last' ≤ last + 1 ∧ Pq w bt bm rb D room last' l' (wh, ka, kb, gg, cc) V2 := by
  refine ⟨klE l ka kb, fun V b => (kill_two (h.below b) ka kb hk).mono ?_⟩
  rintro e V1 ⟨he, hd, h2⟩
  refine ⟨he, ⟨hd.2.1, hd.2.2.1⟩, h2.mono ?_⟩
  rintro e V2 ⟨he2, last', l', hle, hq2⟩
  exact ⟨he2, ⟨hq2.d.2.1, hq2.d.2.2.1⟩, last', l', hle, hq2⟩
end Go.Proofs.Ytcikjnifkoagpaa
