/- The contract of package span's cutUnit: the unit at the head of a text. -/
import Derived.Test.YtlnfapkpehhafaaDoorW2
import Derived.Test.YtlnfapkpehhafaaDoorShelf
namespace Go.Proofs.YtlnfapkpehhafaaDoor
open Go.RowKit
def readCells : List Value := [.string ⟨#[115, 101, 99]⟩, .int .i64 1, .string ⟨#[115]⟩, .int .i64 1, .string ⟨#[109, 105, 110]⟩, .int .i64 60, .string ⟨#[109]⟩, .int .i64 60, .string ⟨#[104, 114]⟩, .int .i64 3600, .string ⟨#[104]⟩, .int .i64 3600, .string ⟨#[100]⟩, .int .i64 86400, .string ⟨#[119]⟩, .int .i64 604800]
def ReadIn (w : World) : Prop := ∀ (j : Nat) v, readCells[j]? = some v → w.cell? ⟨1, j, none⟩ = some v
def UnitAt (l : List UInt8) (T : List (List UInt8 × Int)) : Prop := Sp.unitV Sp.readT l = Sp.unitV T l ∧ Sp.unitR Sp.readT l = Sp.unitR T l ∧ Sp.unitB Sp.readT l = Sp.unitB T l
theorem unit_next {l p : List UInt8} {k : Int} {r : List (List UInt8 × Int)} (hu : UnitAt l ((p, k) :: r)) (h : Lib.hasPrefix l p = false) : UnitAt l r := by
  obtain ⟨a, b, c⟩ := hu
  refine ⟨a.trans ?_, b.trans ?_, c.trans ?_⟩
  · simp [Sp.unitV, h]
  · simp [Sp.unitR, h]
  · simp [Sp.unitB, h]
theorem unit_yes {l p : List UInt8} {k : Int} {r : List (List UInt8 × Int)} (hu : UnitAt l ((p, k) :: r)) (h : Lib.hasPrefix l p = true) :
    Ending.returned (.tuple #[.int .i64 k, .string ⟨(Lib.trimPrefix l p).toArray⟩, .bool true]) = .returned (.tuple #[.int .i64 (Sp.unitV Sp.readT l), .string ⟨(Sp.unitR Sp.readT l).toArray⟩, .bool (Sp.unitB Sp.readT l)]) := by
  obtain ⟨a, b, c⟩ := hu
  rw [a, b, c]
  simp [Sp.unitV, Sp.unitR, Sp.unitB, h]
theorem unit_none {s : ByteArray} (hu : UnitAt s.data.toList []) :
    Ending.returned (.tuple #[.int .i64 1, .string s, .bool false]) = .returned (.tuple #[.int .i64 (Sp.unitV Sp.readT s.data.toList), .string ⟨(Sp.unitR Sp.readT s.data.toList).toArray⟩, .bool (Sp.unitB Sp.readT s.data.toList)]) := by
  obtain ⟨a, b, c⟩ := hu
  rw [a, b, c]
  simp [Sp.unitV, Sp.unitR, Sp.unitB]
theorem idxRead0 (w : World) : (Instr.index 88 (.agg #[.string ⟨#[115, 101, 99]⟩, .int .i64 1, .string ⟨#[115]⟩, .int .i64 1, .string ⟨#[109, 105, 110]⟩, .int .i64 60, .string ⟨#[109]⟩, .int .i64 60, .string ⟨#[104, 114]⟩, .int .i64 3600, .string ⟨#[104]⟩, .int .i64 3600, .string ⟨#[100]⟩, .int .i64 86400, .string ⟨#[119]⟩, .int .i64 604800]) (.int .i64 0)).run Tryd.prog w = .ok (.agg #[.string ⟨#[115, 101, 99]⟩, .int .i64 1]) w := by kernel_rfl
theorem idxRead1 (w : World) : (Instr.index 88 (.agg #[.string ⟨#[115, 101, 99]⟩, .int .i64 1, .string ⟨#[115]⟩, .int .i64 1, .string ⟨#[109, 105, 110]⟩, .int .i64 60, .string ⟨#[109]⟩, .int .i64 60, .string ⟨#[104, 114]⟩, .int .i64 3600, .string ⟨#[104]⟩, .int .i64 3600, .string ⟨#[100]⟩, .int .i64 86400, .string ⟨#[119]⟩, .int .i64 604800]) (.int .i64 1)).run Tryd.prog w = .ok (.agg #[.string ⟨#[115]⟩, .int .i64 1]) w := by kernel_rfl
theorem idxRead2 (w : World) : (Instr.index 88 (.agg #[.string ⟨#[115, 101, 99]⟩, .int .i64 1, .string ⟨#[115]⟩, .int .i64 1, .string ⟨#[109, 105, 110]⟩, .int .i64 60, .string ⟨#[109]⟩, .int .i64 60, .string ⟨#[104, 114]⟩, .int .i64 3600, .string ⟨#[104]⟩, .int .i64 3600, .string ⟨#[100]⟩, .int .i64 86400, .string ⟨#[119]⟩, .int .i64 604800]) (.int .i64 2)).run Tryd.prog w = .ok (.agg #[.string ⟨#[109, 105, 110]⟩, .int .i64 60]) w := by kernel_rfl
theorem idxRead3 (w : World) : (Instr.index 88 (.agg #[.string ⟨#[115, 101, 99]⟩, .int .i64 1, .string ⟨#[115]⟩, .int .i64 1, .string ⟨#[109, 105, 110]⟩, .int .i64 60, .string ⟨#[109]⟩, .int .i64 60, .string ⟨#[104, 114]⟩, .int .i64 3600, .string ⟨#[104]⟩, .int .i64 3600, .string ⟨#[100]⟩, .int .i64 86400, .string ⟨#[119]⟩, .int .i64 604800]) (.int .i64 3)).run Tryd.prog w = .ok (.agg #[.string ⟨#[109]⟩, .int .i64 60]) w := by kernel_rfl
theorem idxRead4 (w : World) : (Instr.index 88 (.agg #[.string ⟨#[115, 101, 99]⟩, .int .i64 1, .string ⟨#[115]⟩, .int .i64 1, .string ⟨#[109, 105, 110]⟩, .int .i64 60, .string ⟨#[109]⟩, .int .i64 60, .string ⟨#[104, 114]⟩, .int .i64 3600, .string ⟨#[104]⟩, .int .i64 3600, .string ⟨#[100]⟩, .int .i64 86400, .string ⟨#[119]⟩, .int .i64 604800]) (.int .i64 4)).run Tryd.prog w = .ok (.agg #[.string ⟨#[104, 114]⟩, .int .i64 3600]) w := by kernel_rfl
theorem idxRead5 (w : World) : (Instr.index 88 (.agg #[.string ⟨#[115, 101, 99]⟩, .int .i64 1, .string ⟨#[115]⟩, .int .i64 1, .string ⟨#[109, 105, 110]⟩, .int .i64 60, .string ⟨#[109]⟩, .int .i64 60, .string ⟨#[104, 114]⟩, .int .i64 3600, .string ⟨#[104]⟩, .int .i64 3600, .string ⟨#[100]⟩, .int .i64 86400, .string ⟨#[119]⟩, .int .i64 604800]) (.int .i64 5)).run Tryd.prog w = .ok (.agg #[.string ⟨#[104]⟩, .int .i64 3600]) w := by kernel_rfl
theorem idxRead6 (w : World) : (Instr.index 88 (.agg #[.string ⟨#[115, 101, 99]⟩, .int .i64 1, .string ⟨#[115]⟩, .int .i64 1, .string ⟨#[109, 105, 110]⟩, .int .i64 60, .string ⟨#[109]⟩, .int .i64 60, .string ⟨#[104, 114]⟩, .int .i64 3600, .string ⟨#[104]⟩, .int .i64 3600, .string ⟨#[100]⟩, .int .i64 86400, .string ⟨#[119]⟩, .int .i64 604800]) (.int .i64 6)).run Tryd.prog w = .ok (.agg #[.string ⟨#[100]⟩, .int .i64 86400]) w := by kernel_rfl
theorem idxRead7 (w : World) : (Instr.index 88 (.agg #[.string ⟨#[115, 101, 99]⟩, .int .i64 1, .string ⟨#[115]⟩, .int .i64 1, .string ⟨#[109, 105, 110]⟩, .int .i64 60, .string ⟨#[109]⟩, .int .i64 60, .string ⟨#[104, 114]⟩, .int .i64 3600, .string ⟨#[104]⟩, .int .i64 3600, .string ⟨#[100]⟩, .int .i64 86400, .string ⟨#[119]⟩, .int .i64 604800]) (.int .i64 7)).run Tryd.prog w = .ok (.agg #[.string ⟨#[119]⟩, .int .i64 604800]) w := by kernel_rfl
set_option maxRecDepth 100000 in
set_option maxHeartbeats 1000000 in
theorem cutUnit_b (s : ByteArray) (w : World) (hT : ReadIn w) :
    Calls Tryd.prog 36 #[.string s] w fun e w' => e = .returned (.tuple #[.int .i64 (Sp.unitV Sp.readT s.data.toList), .string ⟨(Sp.unitR Sp.readT s.data.toList).toArray⟩, .bool (Sp.unitB Sp.readT s.data.toList)]) ∧ Below w.heap.size w w' := by
  have c0 := hT 0 _ rfl
  have c1 := hT 1 _ rfl
  have c2 := hT 2 _ rfl
  have c3 := hT 3 _ rfl
  have c4 := hT 4 _ rfl
  have c5 := hT 5 _ rfl
  have c6 := hT 6 _ rfl
  have c7 := hT 7 _ rfl
  have c8 := hT 8 _ rfl
  have c9 := hT 9 _ rfl
  have c10 := hT 10 _ rfl
  have c11 := hT 11 _ rfl
  have c12 := hT 12 _ rfl
  have c13 := hT 13 _ rfl
  have c14 := hT 14 _ rfl
  have c15 := hT 15 _ rfl
  clear hT
  go_enter Tryd.func36, Tryd.ntmps36
  go_wp2
  clear c0 c1 c2 c3 c4 c5 c6 c7 c8 c9 c10 c11 c12 c13 c14 c15
  go_loopw [10] (fun i wr => ∃ k : Nat, k ≤ 8 ∧ i = .int .i64 k ∧ Below w.heap.size w wr ∧ UnitAt s.data.toList (Sp.readT.drop k)) (fun i _ => 8 - (intOf i).toNat)
  case atStart => exact ⟨0, by omega, rfl, Below.refl _ _, rfl, rfl, rfl⟩
  case round =>
    obtain ⟨k, hk, rfl, hb, hu⟩ := hrel
    have hsz := hb.size
    have hk2 : k = 0 ∨ k = 1 ∨ k = 2 ∨ k = 3 ∨ k = 4 ∨ k = 5 ∨ k = 6 ∨ k = 7 ∨ k = 8 := by omega
    clear hk
    rcases hk2 with rfl | rfl | rfl | rfl | rfl | rfl | rfl | rfl | rfl
    · have hi := idxRead0
      go_wp2_with (go_at_call 48; refine (Tryd.strings_CutPrefix _ _ _).mono ?_; rintro e w' ⟨rfl, rfl⟩)
      · go_ret3
        exact ⟨unit_yes (r := Sp.readT.drop 1) hu ‹_›, hb.alloc hsz _⟩
      · exact ⟨⟨1, by omega, rfl, hb.alloc hsz _, unit_next (r := Sp.readT.drop 1) hu ‹_›⟩, by simp [intOf]⟩
    · have hi := idxRead1
      go_wp2_with (go_at_call 48; refine (Tryd.strings_CutPrefix _ _ _).mono ?_; rintro e w' ⟨rfl, rfl⟩)
      · go_ret3
        exact ⟨unit_yes (r := Sp.readT.drop 2) hu ‹_›, hb.alloc hsz _⟩
      · exact ⟨⟨2, by omega, rfl, hb.alloc hsz _, unit_next (r := Sp.readT.drop 2) hu ‹_›⟩, by simp [intOf]⟩
    · have hi := idxRead2
      go_wp2_with (go_at_call 48; refine (Tryd.strings_CutPrefix _ _ _).mono ?_; rintro e w' ⟨rfl, rfl⟩)
      · go_ret3
        exact ⟨unit_yes (r := Sp.readT.drop 3) hu ‹_›, hb.alloc hsz _⟩
      · exact ⟨⟨3, by omega, rfl, hb.alloc hsz _, unit_next (r := Sp.readT.drop 3) hu ‹_›⟩, by simp [intOf]⟩
    · have hi := idxRead3
      go_wp2_with (go_at_call 48; refine (Tryd.strings_CutPrefix _ _ _).mono ?_; rintro e w' ⟨rfl, rfl⟩)
      · go_ret3
        exact ⟨unit_yes (r := Sp.readT.drop 4) hu ‹_›, hb.alloc hsz _⟩
      · exact ⟨⟨4, by omega, rfl, hb.alloc hsz _, unit_next (r := Sp.readT.drop 4) hu ‹_›⟩, by simp [intOf]⟩
    · have hi := idxRead4
      go_wp2_with (go_at_call 48; refine (Tryd.strings_CutPrefix _ _ _).mono ?_; rintro e w' ⟨rfl, rfl⟩)
      · go_ret3
        exact ⟨unit_yes (r := Sp.readT.drop 5) hu ‹_›, hb.alloc hsz _⟩
      · exact ⟨⟨5, by omega, rfl, hb.alloc hsz _, unit_next (r := Sp.readT.drop 5) hu ‹_›⟩, by simp [intOf]⟩
    · have hi := idxRead5
      go_wp2_with (go_at_call 48; refine (Tryd.strings_CutPrefix _ _ _).mono ?_; rintro e w' ⟨rfl, rfl⟩)
      · go_ret3
        exact ⟨unit_yes (r := Sp.readT.drop 6) hu ‹_›, hb.alloc hsz _⟩
      · exact ⟨⟨6, by omega, rfl, hb.alloc hsz _, unit_next (r := Sp.readT.drop 6) hu ‹_›⟩, by simp [intOf]⟩
    · have hi := idxRead6
      go_wp2_with (go_at_call 48; refine (Tryd.strings_CutPrefix _ _ _).mono ?_; rintro e w' ⟨rfl, rfl⟩)
      · go_ret3
        exact ⟨unit_yes (r := Sp.readT.drop 7) hu ‹_›, hb.alloc hsz _⟩
      · exact ⟨⟨7, by omega, rfl, hb.alloc hsz _, unit_next (r := Sp.readT.drop 7) hu ‹_›⟩, by simp [intOf]⟩
    · have hi := idxRead7
      go_wp2_with (go_at_call 48; refine (Tryd.strings_CutPrefix _ _ _).mono ?_; rintro e w' ⟨rfl, rfl⟩)
      · go_ret3
        exact ⟨unit_yes (r := Sp.readT.drop 8) hu ‹_›, hb.alloc hsz _⟩
      · exact ⟨⟨8, by omega, rfl, hb.alloc hsz _, unit_next (r := Sp.readT.drop 8) hu ‹_›⟩, by simp [intOf]⟩
    · go_wp2
      go_ret3
      exact ⟨unit_none hu, hb⟩
end Go.Proofs.YtlnfapkpehhafaaDoor
