/- Contracts of package name's isLetterOrDigit, isSpelt, cut, Is. -/
import Derived.Test.YtcfclknfnadgcaaDoorNM2
import Derived.Test.YtcfclknfnadgcaaDoorZ0
import Derived.Test.YtcfclknfnadgcaaDoorShelf
namespace Go.Proofs.YtcfclknfnadgcaaDoor
open Go.RowKit Nam
set_option maxHeartbeats 1000000 in
theorem lod_any (c : UInt8) (w : World) :
    Calls Tryd.prog 55 #[.int .u8 c.toNat] w fun e w' => e = .returned (.bool (al c)) ∧ w' = w := by
  have hc := c.toNat_lt
  have hA : Hid (al c = decide ((97 ≤ c.toNat ∧ c.toNat ≤ 122) ∨ (65 ≤ c.toNat ∧ c.toNat ≤ 90) ∨ (48 ≤ c.toNat ∧ c.toNat ≤ 57))) := rfl
  go_enter Tryd.func55, Tryd.ntmps55
  go_wp2
  all_goals
    go_ret
    refine ⟨ret_bool ?_, rfl⟩
    rw [hA.out]
    first | (simp; omega) | (rw [Bool.eq_iff_iff]; simp; omega) | (rw [Bool.eq_iff_iff]; simp at *; omega)
theorem byte_back (c : UInt8) : (c.toNat : Int).toNat.toUInt8 = c := by simp
theorem spC (c : UInt8) : sp c = (al c || decide (0 ≤ Lib.indexByte [58, 45, 95, 46, 92] c)) := rfl
theorem indexByte_any (s : ByteArray) (c : UInt8) (w : World) :
    Calls Tryd.prog 56 #[.string s, .int .u8 c.toNat] w fun e w' => e = .returned (.int .i64 (Lib.indexByte s.data.toList c)) ∧ w' = w := by
  have := Tryd.strings_IndexByte s c.toNat w
  rwa [byte_back] at this
set_option maxHeartbeats 2000000 in
theorem spelt_any (s : ByteArray) (w : World) (hs : s.size ≤ 2000000) :
    Calls Tryd.prog 42 #[.string s] w fun e w' => e = .returned (.bool (spelt s.data.toList)) ∧ w' = w := by
  go_enter Tryd.func42, Tryd.ntmps42
  go_wp2_with fail
  go_loop [6] (fun i => ∃ k : Nat, k ≤ s.size ∧ i = .int .i64 k ∧ Hid ((s.data.toList.take k).all sp = true)) (fun i => s.size - (intOf i).toNat)
  case atStart => exact ⟨0, by omega, rfl, rfl⟩
  case round =>
    obtain ⟨k, hk, rfl, hno⟩ := hrel
    by_cases hlt : k < s.size
    · have htk : Hid (s.data.toList.take (k + 1) = s.data.toList.take k ++ [s[k]]) := by
        show _ = _
        rw [List.take_add_one, get_list s k hlt]; rfl
      have hmem : Hid (s[k] ∈ s.data.toList) := List.mem_of_getElem? (get_list s k hlt)
      obtain ⟨c, hc⟩ : ∃ c, s[k] = c := ⟨_, rfl⟩
      rw [hc] at htk hmem
      cases hsp : sp c
      · have hF : Hid (spelt s.data.toList = false) := by
          show _ = _
          unfold spelt
          rw [← Bool.not_eq_true, List.all_eq_true]
          intro h
          rw [h c hmem.out] at hsp; cases hsp
        have ha : al c = false := by rw [spC] at hsp; simp at hsp; exact hsp.1
        have hi : Lib.indexByte [58, 45, 95, 46, 92] c < 0 := by rw [spC] at hsp; simp at hsp; omega
        go_wp2_with (first | (go_at_call 55; refine (lod_any c _).mono ?_; rintro e w' ⟨rfl, rfl⟩) | (go_at_call 56; refine (indexByte_any _ c _).mono ?_; rintro e w' ⟨rfl, rfl⟩))
        go_ret
        exact ⟨ret_bool (by rw [hF.out]), rfl⟩
      · have hn : Hid ((s.data.toList.take (k + 1)).all sp = true) := by
          show _ = _
          rw [htk.out, List.all_append, hno.out]; simp [hsp]
        cases ha : al c
        · have hi : ¬ Lib.indexByte [58, 45, 95, 46, 92] c < 0 := by rw [spC, ha] at hsp; simp at hsp; omega
          go_wp2_with (first | (go_at_call 55; refine (lod_any c _).mono ?_; rintro e w' ⟨rfl, rfl⟩) | (go_at_call 56; refine (indexByte_any _ c _).mono ?_; rintro e w' ⟨rfl, rfl⟩))
          exact ⟨⟨k + 1, by omega, by go_num, hn⟩, by simp [intOf]; omega⟩
        · go_wp2_with (first | (go_at_call 55; refine (lod_any c _).mono ?_; rintro e w' ⟨rfl, rfl⟩) | (go_at_call 56; refine (indexByte_any _ c _).mono ?_; rintro e w' ⟨rfl, rfl⟩))
          exact ⟨⟨k + 1, by omega, by go_num, hn⟩, by simp [intOf]; omega⟩
    · obtain rfl : k = s.size := by omega
      have hT : Hid (spelt s.data.toList = true) := by
        have := hno.out
        rwa [List.take_of_length_le (by rw [size_list]; omega)] at this
      go_wp2_with fail
      go_ret
      exact ⟨ret_bool (by rw [hT.out]), rfl⟩
theorem undE : Tryd.prog.underlying 80 = some (.array 6 69) := by kernel_rfl
theorem extract2 (cs : Array Value) (m : Nat) (a b : Value) (ha : cs[m]? = some a) (hb : cs[m + 1]? = some b) : cs.extract m (m + 2) = #[a, b] := by
  obtain ⟨l⟩ := cs
  simp only [List.getElem?_toArray] at ha hb
  obtain ⟨h1, h2⟩ := List.getElem?_eq_some_iff.1 ha
  obtain ⟨h3, h4⟩ := List.getElem?_eq_some_iff.1 hb
  rw [List.extract_toArray, List.extract_eq_take_drop, List.drop_eq_getElem_cons h1, h2, List.drop_eq_getElem_cons h3, h4]
  simp
theorem idxE {w : World} (cs : Array Value) (i : Nat) (h1 : i < 6) (_ : cs.size = 12) (a b : Value) (ha : cs[i * 2]? = some a) (hb : cs[i * 2 + 1]? = some b) : (Instr.index 80 (.agg cs) (.int .i64 i)).run Tryd.prog w = .ok (.agg #[a, b]) w := by
  have hz : Tryd.t69.size = 2 := by kernel_rfl
  have hI : (i : Int) < 6 := by omega
  have h0 : (0 : Int) ≤ (i : Int) := by omega
  simp [Instr.index, run_underlying undE, asIntOf, h0, go_sem, part, sizeOf]
  rw [if_pos h1, hz, extract2 cs (i * 2) a b ha hb]
/-- The package's variables: the endings, and what package bytealg keeps. -/
structure GlN (w : World) : Prop where
  en : ∀ (j : Nat) (e : L), ends[j]? = some e → w.cell? ⟨0, 2 * j, none⟩ = some (.string ⟨e.toArray⟩) ∧ w.cell? ⟨0, 2 * j + 1, none⟩ = some (.int .i64 ((j : Int) + 1))
  mx : ∃ m, w.cell? ⟨1, 0, none⟩ = some (.int .i64 m)
theorem GlN.below {w w' : World} (h : GlN w) (hb : Below w.heap.size w w') : GlN w' :=
  ⟨fun j e he => ⟨(hb.cell (p := ⟨0, 2 * j, none⟩) (cell_lt (h.en j e he).1)).trans (h.en j e he).1, (hb.cell (p := ⟨0, 2 * j + 1, none⟩) (cell_lt (h.en j e he).2)).trans (h.en j e he).2⟩,
    by obtain ⟨m, hm⟩ := h.mx; exact ⟨m, (hb.cell (p := ⟨1, 0, none⟩) (cell_lt hm)).trans hm⟩⟩
def zeroP : Value := .agg #[.string ⟨#[]⟩, .string ⟨#[]⟩, .bool false, .string ⟨#[]⟩, .int .i64 0]
def prtV (p : Prt) : Value := .agg #[.string ⟨p.1.toArray⟩, .string ⟨p.2.1.toArray⟩, .bool p.2.2.1, .string ⟨(endk p.2.2.2).toArray⟩, .int .i64 ((p.2.2.2 : Int) + 1)]
def cutV : Option Prt → Value
  | none => zeroP
  | some p => prtV p
theorem below_set5 {w W : World} {n b : Nat} (h : Below n w W) (hb : n ≤ b) (v0 v1 v2 v3 v4 : Value) : Below n w (((((W.setCell ⟨b, 0, none⟩ v0).setCell ⟨b, 1, none⟩ v1).setCell ⟨b, 2, none⟩ v2).setCell ⟨b, 3, none⟩ v3).setCell ⟨b, 4, none⟩ v4) :=
  ((((h.setCell (p := ⟨b, 0, none⟩) hb _).setCell (p := ⟨b, 1, none⟩) hb _).setCell (p := ⟨b, 2, none⟩) hb _).setCell (p := ⟨b, 3, none⟩) hb _).setCell (p := ⟨b, 4, none⟩) hb _
theorem cut_le (l : L) (c : L) : (Lib.cut l c).1.length ≤ l.length ∧ (Lib.cut l c).2.1.length ≤ l.length := by
  unfold Lib.cut
  split
  · simp; omega
  · simp
set_option maxHeartbeats 4000000 in
theorem cutn_any (s : ByteArray) (w : World) (hg : GlN w) (hs : s.size ≤ 2000000) :
    Calls Tryd.prog 30 #[.string s] w fun e w' => e = .returned (.tuple #[cutV (cutN s.data.toList), .bool (cutN s.data.toList).isSome]) ∧ Below w.heap.size w w' := by
  by_cases hz : 60 < s.size
  · have hN : Hid (cutN s.data.toList = none) := by show _ = _; unfold cutN; rw [size_list, if_pos hz]
    go_enter Tryd.func30, Tryd.ntmps30
    go_wp2_with fail
    exact bodyPost_ret (v := .tuple #[.agg #[.string ⟨#[]⟩, .string ⟨#[]⟩, .bool false, .string ⟨#[]⟩, .int .i64 0], .bool false]) (by simp [results, Tryd.results30, go_sem]) rfl ⟨by rw [hN.out]; rfl, (Below.refl _ _).alloc (Nat.le_refl _) _⟩
  · have hN : Hid (cutN s.data.toList = (fnd s.data.toList 0 ends).bind fun p => stm p.1 p.2) := by show _ = _; unfold cutN; rw [size_list, if_neg hz]
    have c0 : w.cell? ⟨0, 0, none⟩ = some (.string ⟨#[46, 115, 101, 114, 118, 105, 99, 101]⟩) := (hg.en 0 _ rfl).1
    have d0 : w.cell? ⟨0, 1, none⟩ = some (.int .i64 1) := (hg.en 0 _ rfl).2
    have c1 : w.cell? ⟨0, 2, none⟩ = some (.string ⟨#[46, 115, 111, 99, 107, 101, 116]⟩) := (hg.en 1 _ rfl).1
    have d1 : w.cell? ⟨0, 3, none⟩ = some (.int .i64 2) := (hg.en 1 _ rfl).2
    have c2 : w.cell? ⟨0, 4, none⟩ = some (.string ⟨#[46, 116, 105, 109, 101, 114]⟩) := (hg.en 2 _ rfl).1
    have d2 : w.cell? ⟨0, 5, none⟩ = some (.int .i64 3) := (hg.en 2 _ rfl).2
    have c3 : w.cell? ⟨0, 6, none⟩ = some (.string ⟨#[46, 112, 97, 116, 104]⟩) := (hg.en 3 _ rfl).1
    have d3 : w.cell? ⟨0, 7, none⟩ = some (.int .i64 4) := (hg.en 3 _ rfl).2
    have c4 : w.cell? ⟨0, 8, none⟩ = some (.string ⟨#[46, 109, 111, 117, 110, 116]⟩) := (hg.en 4 _ rfl).1
    have d4 : w.cell? ⟨0, 9, none⟩ = some (.int .i64 5) := (hg.en 4 _ rfl).2
    have c5 : w.cell? ⟨0, 10, none⟩ = some (.string ⟨#[46, 116, 97, 114, 103, 101, 116]⟩) := (hg.en 5 _ rfl).1
    have d5 : w.cell? ⟨0, 11, none⟩ = some (.int .i64 6) := (hg.en 5 _ rfl).2
    have h0 : 0 < w.heap.size := cell_lt c0
    obtain ⟨cs, hcs⟩ : ∃ cs : Array Value, Hid (cs = #[.string ⟨#[46, 115, 101, 114, 118, 105, 99, 101]⟩, .int .i64 1, .string ⟨#[46, 115, 111, 99, 107, 101, 116]⟩, .int .i64 2, .string ⟨#[46, 116, 105, 109, 101, 114]⟩, .int .i64 3, .string ⟨#[46, 112, 97, 116, 104]⟩, .int .i64 4, .string ⟨#[46, 109, 111, 117, 110, 116]⟩, .int .i64 5, .string ⟨#[46, 116, 97, 114, 103, 101, 116]⟩, .int .i64 6]) := ⟨_, rfl⟩
    go_enter Tryd.func30, Tryd.ntmps30
    go_wp2_with fail
    rw [← hcs.out]
    have hix : Hid (∀ (k : Nat) (e : L), ends[k]? = some e → ∀ w, (Instr.index 80 (.agg cs) (.int .i64 k)).run Tryd.prog w = .ok (.agg #[.string ⟨e.toArray⟩, .int .i64 ((k : Int) + 1)]) w) := by
      intro k e he w
      have hk6 : k < 6 := by have := (List.getElem?_eq_some_iff.1 he).1; simpa [ends] using this
      refine idxE cs k hk6 (by rw [hcs.out]; rfl) _ _ ?_ ?_
      all_goals
        rw [hcs.out]
        match k, he with
        | 0, he => cases he; rfl
        | 1, he => cases he; rfl
        | 2, he => cases he; rfl
        | 3, he => cases he; rfl
        | 4, he => cases he; rfl
        | 5, he => cases he; rfl
        | n + 6, he => simp [ends] at he
    clear c0 c1 c2 c3 c4 c5 d0 d1 d2 d3 d4 d5 h0
    obtain ⟨W0, hW0⟩ : ∃ W0, w.alloc (.cells #[.string ⟨#[]⟩, .string ⟨#[]⟩, .bool false, .string ⟨#[]⟩, .int .i64 0] 71) = W0 := ⟨_, rfl⟩
    rw [hW0]
    have hB0 : Hid (Below w.heap.size w W0) := by rw [← hW0]; exact (Below.refl _ _).alloc (Nat.le_refl _) _
    have hz0 : W0.heap.size = w.heap.size + 1 := by rw [← hW0]; simp
    have hcell : Hid (W0.cell? ⟨w.heap.size, 0, none⟩ = some (.string ⟨#[]⟩) ∧ W0.cell? ⟨w.heap.size, 1, none⟩ = some (.string ⟨#[]⟩) ∧ W0.cell? ⟨w.heap.size, 2, none⟩ = some (.bool false) ∧ W0.cell? ⟨w.heap.size, 3, none⟩ = some (.string ⟨#[]⟩) ∧ W0.cell? ⟨w.heap.size, 4, none⟩ = some (.int .i64 0)) := by
      rw [← hW0]; exact ⟨cell_at rfl rfl, cell_at rfl rfl, cell_at rfl rfl, cell_at rfl rfl, cell_at rfl rfl⟩
    have hfroz : Hid (∀ j, W0.frozen? ⟨w.heap.size, j, none⟩ = false) := by
      intro j; rw [← hW0]; exact World.frozen?_alloc_new w _ _ j
    clear hW0
    go_loopw [16] (fun i wr => ∃ k : Nat, k ≤ 6 ∧ i = .int .i64 k ∧ Hid (fnd s.data.toList 0 ends = fnd s.data.toList k (ends.drop k)) ∧ Hid (Below W0.heap.size W0 wr) ∧ w.heap.size < wr.heap.size) (fun i _ => 6 - (intOf i).toNat)
    case atStart => exact ⟨0, by omega, rfl, rfl, Below.refl _ _, by omega⟩
    case round =>
      obtain ⟨k, hk, rfl, hf, hb, hwz⟩ := hrel
      have hgr : GlN wr := (hg.below hB0.out).below hb.out
      have hBw : Hid (Below w.heap.size w wr) := hB0.out.trans (hb.out.mono (by omega))
      obtain ⟨q0, q1, q2, q3, q4⟩ := hcell.out
      have wl : w.heap.size < W0.heap.size := by omega
      replace q0 := (hb.out.cell (p := ⟨w.heap.size, 0, none⟩) wl).trans q0
      replace q1 := (hb.out.cell (p := ⟨w.heap.size, 1, none⟩) wl).trans q1
      replace q2 := (hb.out.cell (p := ⟨w.heap.size, 2, none⟩) wl).trans q2
      replace q3 := (hb.out.cell (p := ⟨w.heap.size, 3, none⟩) wl).trans q3
      replace q4 := (hb.out.cell (p := ⟨w.heap.size, 4, none⟩) wl).trans q4
      have f0 := (hb.out.frozen (p := ⟨w.heap.size, 0, none⟩) wl).trans (hfroz.out 0)
      have f1 := (hb.out.frozen (p := ⟨w.heap.size, 1, none⟩) wl).trans (hfroz.out 1)
      have f2 := (hb.out.frozen (p := ⟨w.heap.size, 2, none⟩) wl).trans (hfroz.out 2)
      have f3 := (hb.out.frozen (p := ⟨w.heap.size, 3, none⟩) wl).trans (hfroz.out 3)
      have f4 := (hb.out.frozen (p := ⟨w.heap.size, 4, none⟩) wl).trans (hfroz.out 4)
      by_cases hlt : k < 6
      · obtain ⟨e, he⟩ : ∃ e, ends[k]? = some e := ⟨_, List.getElem?_eq_getElem (by simpa [ends] using hlt)⟩
        have hst := fnd_step s.data.toList k e he
        have hek := endk_of he
        have hx := hix.out k e he
        obtain ⟨E, hEe⟩ : ∃ E : ByteArray, (⟨e.toArray⟩ : ByteArray) = E := ⟨_, rfl⟩
        have hEl : E.data.toList = e := by rw [← hEe]
        rw [hEe] at hx
        have hCS := Tryd.strings_CutSuffix s E
        rw [hEl] at hCS
        have hI : (k : Int) < 6 := by omega
        cases hsf : Lib.hasSuffix s.data.toList e
        · have hn : Hid (fnd s.data.toList k (ends.drop k) = fnd s.data.toList (k + 1) (ends.drop (k + 1))) := by
            show _ = _
            rw [hst, if_neg (by rw [hsf]; simp)]
          rw [hsf] at hCS
          have hCS' : Hid (∀ w, s.size ≤ 9223372036854775807 → Calls Tryd.prog 40 #[.string s, .string E] w fun e_1 w' => e_1 = .returned (.tuple #[.string ⟨(Lib.trimSuffix s.data.toList e).toArray⟩, .bool false]) ∧ w' = w) := hCS
          clear hst hek hCS he hEe hEl
          go_wp2_with fail
          refine (hCS'.out _ (by omega)).mono ?_
          rintro e1 w1 ⟨rfl, rfl⟩
          go_wp2_with fail
          exact ⟨⟨k + 1, by omega, by go_num, hf.out.trans hn.out, hb.out.alloc hb.out.size _, by simp; omega⟩, by simp [intOf]; omega⟩
        · obtain ⟨st, hstm⟩ : ∃ st, Lib.trimSuffix s.data.toList e = st := ⟨_, rfl⟩
          have hR : Hid (cutN s.data.toList = stm st k) := by
            show _ = _
            rw [hN.out, hf.out, hst, if_pos hsf, ← hstm, Lib.trimSuffix, if_pos hsf]; rfl
          have hsl : st.length ≤ 2000000 := by
            have := Lib.trimSuffix_le s.data.toList e
            rw [hstm, size_list] at this; omega
          rw [hsf, hstm] at hCS
          have hCS' : Hid (∀ w, s.size ≤ 9223372036854775807 → Calls Tryd.prog 40 #[.string s, .string E] w fun e_1 w' => e_1 = .returned (.tuple #[.string ⟨st.toArray⟩, .bool true]) ∧ w' = w) := hCS
          clear hst hCS he hf
          obtain ⟨m, hm⟩ := hgr.mx
          have hmlt : 1 < wr.heap.size := cell_lt hm
          obtain ⟨S, hS⟩ : ∃ S : ByteArray, (⟨st.toArray⟩ : ByteArray) = S := ⟨_, rfl⟩
          have hSl : S.data.toList = st := by rw [← hS]
          have hSz : S.size ≤ 2000000 := by rw [← hS]; exact hsl
          obtain ⟨A, hA⟩ : ∃ A : ByteArray, (⟨(Lib.cut st [64]).1.toArray⟩ : ByteArray) = A := ⟨_, rfl⟩
          obtain ⟨Z, hZ⟩ : ∃ Z : ByteArray, (⟨(Lib.cut st [64]).2.1.toArray⟩ : ByteArray) = Z := ⟨_, rfl⟩
          obtain ⟨F, hF⟩ : ∃ F : Bool, (Lib.cut st [64]).2.2 = F := ⟨_, rfl⟩
          have hAl : A.data.toList = (Lib.cut st [64]).1 := by rw [← hA]
          have hZl : Z.data.toList = (Lib.cut st [64]).2.1 := by rw [← hZ]
          have hle := cut_le st [64]
          have hAs : A.size ≤ 2000000 := by rw [← hA]; exact Nat.le_trans hle.1 hsl
          have hZs : Z.size ≤ 2000000 := by rw [← hZ]; exact Nat.le_trans hle.2 hsl
          have hCut : Hid (∀ w, w.cell? ⟨1, 0, none⟩ = some (.int .i64 m) → Calls Tryd.prog 41 #[.string S, .string ⟨#[64]⟩] w fun e w' => e = .returned (.tuple #[.string A, .string Z, .bool F]) ∧ ∃ n, w' = w.drewN n) := by
            intro w h
            have := Tryd.strings_Cut S ⟨#[64]⟩ m w (by omega) h
            rw [hSl] at this
            rw [← hA, ← hZ, ← hF]
            exact this
          rw [hS] at hCS'
          have hSt : Hid (stm st k = if (A.toList == []) || !(spelt A.data.toList) || !(spelt Z.data.toList) then none else some ((Lib.cut st [64]).1, (Lib.cut st [64]).2.1, F, k)) := by
            show _ = _
            rw [Lib.toList_data, hAl, hZl, ← hF]; rfl
          have hV : Hid (prtV ((Lib.cut st [64]).1, (Lib.cut st [64]).2.1, F, k) = .agg #[.string A, .string Z, .bool F, .string E, .int .i64 ((k : Int) + 1)]) := by
            show _ = _
            unfold prtV
            rw [hA, hZ, hek, hEe]
          clear hA hZ hF hAl hZl hle hS hSl hstm hek hEe hEl hsl
          have hb1 : Hid (Below w.heap.size w (wr.alloc (.cells #[.string E, .int .i64 ((k : Int) + 1)] 69))) := hBw.out.alloc hBw.out.size _
          cases ha : (A.toList == [])
          · cases h1 : spelt A.data.toList
            · have hX : Hid (cutN s.data.toList = none) := by show _ = _; rw [hR.out, hSt.out, ha, h1]; rfl
              go_wp2_with fail
              refine (hCS'.out _ (by omega)).mono ?_
              rintro e1 w1 ⟨rfl, rfl⟩
              go_wp2_with fail
              refine (hCut.out _ (by rw [World.cell?_alloc_lt _ _ _ hmlt]; exact hm)).mono ?_
              rintro e1 w1 ⟨rfl, n, rfl⟩
              go_wp2_with (go_at_call 42; refine (spelt_any A _ (by omega)).mono ?_; rintro e w' ⟨rfl, rfl⟩)
              refine bodyPost_ret (v := .tuple #[.agg #[.string ⟨#[]⟩, .string ⟨#[]⟩, .bool false, .string ⟨#[]⟩, .int .i64 0], .bool false]) (by simp [results, Tryd.results30, go_sem, q0, q1, q2, q3, q4, hwz]) rfl ⟨by rw [hX.out]; rfl, ?_⟩
              exact below_set5 (below_drewN hb1.out _) (Nat.le_refl _) _ _ _ _ _
            · cases h2 : spelt Z.data.toList
              · have hX : Hid (cutN s.data.toList = none) := by show _ = _; rw [hR.out, hSt.out, ha, h1, h2]; rfl
                go_wp2_with fail
                refine (hCS'.out _ (by omega)).mono ?_
                rintro e1 w1 ⟨rfl, rfl⟩
                go_wp2_with fail
                refine (hCut.out _ (by rw [World.cell?_alloc_lt _ _ _ hmlt]; exact hm)).mono ?_
                rintro e1 w1 ⟨rfl, n, rfl⟩
                go_wp2_with (go_at_call 42; refine (spelt_any _ _ (by assumption)).mono ?_; rintro e w' ⟨rfl, rfl⟩)
                refine bodyPost_ret (v := .tuple #[.agg #[.string ⟨#[]⟩, .string ⟨#[]⟩, .bool false, .string ⟨#[]⟩, .int .i64 0], .bool false]) (by simp [results, Tryd.results30, go_sem, q0, q1, q2, q3, q4, hwz]) rfl ⟨by rw [hX.out]; rfl, ?_⟩
                exact below_set5 (below_drewN hb1.out _) (Nat.le_refl _) _ _ _ _ _
              · have hX : Hid (cutN s.data.toList = some ((Lib.cut st [64]).1, (Lib.cut st [64]).2.1, F, k)) := by show _ = _; rw [hR.out, hSt.out, ha, h1, h2]; rfl
                go_wp2_with fail
                refine (hCS'.out _ (by omega)).mono ?_
                rintro e1 w1 ⟨rfl, rfl⟩
                go_wp2_with fail
                refine (hCut.out _ (by rw [World.cell?_alloc_lt _ _ _ hmlt]; exact hm)).mono ?_
                rintro e1 w1 ⟨rfl, n, rfl⟩
                go_wp2_with (go_at_call 42; refine (spelt_any _ _ (by assumption)).mono ?_; rintro e w' ⟨rfl, rfl⟩)
                refine bodyPost_ret (v := .tuple #[.agg #[.string A, .string Z, .bool F, .string E, .int .i64 ((k : Int) + 1)], .bool true]) (by simp [results, Tryd.results30, go_sem, q0, q1, q2, q3, q4, hwz]) rfl ⟨by rw [hX.out, cutV, hV.out]; rfl, ?_⟩
                exact below_set5 (below_drewN hb1.out _) (Nat.le_refl _) _ _ _ _ _
          · have hX : Hid (cutN s.data.toList = none) := by show _ = _; rw [hR.out, hSt.out, ha]; rfl
            go_wp2_with fail
            refine (hCS'.out _ (by omega)).mono ?_
            rintro e1 w1 ⟨rfl, rfl⟩
            go_wp2_with fail
            refine (hCut.out _ (by rw [World.cell?_alloc_lt _ _ _ hmlt]; exact hm)).mono ?_
            rintro e1 w1 ⟨rfl, n, rfl⟩
            go_wp2_with fail
            refine bodyPost_ret (v := .tuple #[.agg #[.string ⟨#[]⟩, .string ⟨#[]⟩, .bool false, .string ⟨#[]⟩, .int .i64 0], .bool false]) (by simp [results, Tryd.results30, go_sem, q0, q1, q2, q3, q4, hwz]) rfl ⟨by rw [hX.out]; rfl, ?_⟩
            exact below_set5 (below_drewN hb1.out _) (Nat.le_refl _) _ _ _ _ _
      · obtain rfl : k = 6 := by omega
        have hR : Hid (cutN s.data.toList = none) := by show _ = _; rw [hN.out, hf.out]; rfl
        go_wp2_with fail
        refine bodyPost_ret (v := .tuple #[.agg #[.string ⟨#[]⟩, .string ⟨#[]⟩, .bool false, .string ⟨#[]⟩, .int .i64 0], .bool false]) (by simp [results, Tryd.results30, go_sem, q0, q1, q2, q3, q4]) rfl ⟨by rw [hR.out]; rfl, ?_⟩
        exact below_set5 hBw.out (Nat.le_refl _) _ _ _ _ _
theorem cutn_none (s : ByteArray) (w : World) (hg : GlN w) (hs : s.size ≤ 2000000) (h : cutN s.data.toList = none) :
    Calls Tryd.prog 30 #[.string s] w fun e w' => e = .returned (.tuple #[.agg #[.string ⟨#[]⟩, .string ⟨#[]⟩, .bool false, .string ⟨#[]⟩, .int .i64 0], .bool false]) ∧ Below w.heap.size w w' := by
  have := cutn_any s w hg hs
  rw [h] at this
  exact this
theorem cutn_some (s : ByteArray) (w : World) (hg : GlN w) (hs : s.size ≤ 2000000) (A Z E : ByteArray) (m : Bool) (k : Nat) (h : cutN s.data.toList = some (A.data.toList, Z.data.toList, m, k)) (hE : E = ⟨(endk k).toArray⟩) :
    Calls Tryd.prog 30 #[.string s] w fun e w' => e = .returned (.tuple #[.agg #[.string A, .string Z, .bool m, .string E, .int .i64 ((k : Int) + 1)], .bool true]) ∧ Below w.heap.size w w' := by
  have := cutn_any s w hg hs
  rw [h] at this
  subst hE
  refine this.mono ?_
  rintro e w' ⟨rfl, hb⟩
  refine ⟨?_, hb⟩
  show Ending.returned (.tuple #[prtV (A.data.toList, Z.data.toList, m, k), .bool true]) = _
  unfold prtV
  rw [Lib.mk_data, Lib.mk_data]
set_option maxHeartbeats 1000000 in
theorem is_any (s : ByteArray) (w : World) (hg : GlN w) (hs : s.size ≤ 2000000) :
    Calls Tryd.prog 18 #[.string s] w fun e w' => e = .returned (.bool (cutN s.data.toList).isSome) ∧ Below w.heap.size w w' := by
  cases h : cutN s.data.toList with
  | none =>
    have hc := cutn_none s w hg hs h
    go_enter Tryd.func18, Tryd.ntmps18
    go_wp2_with fail
    refine hc.mono ?_
    rintro e w1 ⟨rfl, hb⟩
    go_wp2_with fail
    go_ret
    exact ⟨rfl, hb.alloc hb.size _⟩
  | some p =>
    obtain ⟨x, y, m, k⟩ := p
    obtain ⟨A, rfl, _, _⟩ := letters x
    obtain ⟨Z, rfl, _, _⟩ := letters y
    obtain ⟨E, hE⟩ : ∃ E : ByteArray, E = ⟨(endk k).toArray⟩ := ⟨_, rfl⟩
    have hc := cutn_some s w hg hs A Z E m k h hE
    go_enter Tryd.func18, Tryd.ntmps18
    go_wp2_with fail
    refine hc.mono ?_
    rintro e w1 ⟨rfl, hb⟩
    go_wp2_with fail
    go_ret
    exact ⟨rfl, hb.alloc hb.size _⟩
end Go.Proofs.YtcfclknfnadgcaaDoor
