/- The contract of package name's Escape. -/
import Derived.Test.YtimmieelpaoncaaDoorA4
import Derived.Test.YtimmieelpaoncaaDoorShelfW
namespace Go.Proofs.YtimmieelpaoncaaDoor
open Go.RowKit Nam
theorem fresh_builder (w : World) : Lib.IsBuilder 53 5 w.heap.size w.heap.size (Lib.byteCells []) (w.alloc (.cells #[.pointer none, .slice none 0 0] 53)) :=
  .inl ⟨Nat.le_refl _, _, heap_alloc_new w _, World.ownsRow_nil _ _ _ _, by simp [Value.ownBlock]⟩
theorem e1_len (f : Bool) (c : UInt8) : (e1 f c).length ≤ 4 := by unfold e1; split; simp; split <;> simp
theorem flat_len (f : Bool) : ∀ l : L, (l.flatMap (e1 f)).length ≤ 4 * l.length
  | [] => by simp
  | c :: r => by have := flat_len f r; have := e1_len f c; rw [List.flatMap_cons, List.length_append, List.length_cons]; omega
theorem esc_len (l : L) : (esc l).length ≤ 4 * l.length := by
  cases l with
  | nil => simp [esc]
  | cons c r => have := flat_len false r; have := e1_len true c; rw [esc, List.length_append, List.length_cons]; omega
theorem byteCells_snoc (l : L) (c : UInt8) : Lib.byteCells (l ++ [c]) = Lib.byteCells l ++ [Value.int .u8 c.toNat] := by simp [Lib.byteCells]
set_option maxHeartbeats 4000000 in
theorem escape_any (s : ByteArray) (w : World) (hs : s.size ≤ 1000000) :
    Calls Tryd.prog 20 #[.string s] w fun e w' => e = .returned (.string ⟨(esc s.data.toList).toArray⟩) ∧ Below w.heap.size w w' := by
  have hfb := fresh_builder w
  go_enter Tryd.func20, Tryd.ntmps20
  go_wp2_with fail
  go_loopw [8] (fun i wr => ∃ k : Nat, k ≤ s.size ∧ i = .int .i64 k ∧ Hid (Lib.IsBuilder 53 5 w.heap.size w.heap.size (Lib.byteCells (esc (s.data.toList.take k))) wr) ∧ Below w.heap.size w wr) (fun i _ => s.size - (intOf i).toNat)
  case atStart => exact ⟨0, by omega, rfl, hfb, (Below.refl _ _).alloc (Nat.le_refl _) _⟩
  case round =>
    obtain ⟨k, hk, rfl, hB, hb⟩ := hrel
    have hwz := hb.size
    by_cases hlt : k < s.size
    · have htk : Hid (s.data.toList.take (k + 1) = s.data.toList.take k ++ [s[k]]) := by
        show _ = _
        rw [List.take_add_one, get_list s k hlt]; rfl
      have htl : Hid ((s.data.toList.take k).length = k) := by show _ = _; rw [List.length_take, size_list]; omega
      obtain ⟨c, hc⟩ : ∃ c, s[k] = c := ⟨_, rfl⟩
      rw [hc] at htk
      have hcl := c.toNat_lt
      obtain ⟨X, hX⟩ : ∃ X, esc (s.data.toList.take k) = X := ⟨_, rfl⟩
      have hXl : X.length ≤ 4000000 := by
        have := esc_len (s.data.toList.take k)
        rw [htl.out, hX] at this; omega
      rw [hX] at hB
      have hE : Hid (esc (s.data.toList.take (k + 1)) = X ++ e1 (k == 0) c) := by
        show _ = _
        rw [htk.out, esc_snoc, hX, htl.out]
      have hXb : (Lib.byteCells X).length = X.length := Lib.byteCells_length X
      clear hX
      by_cases h47 : c = 47
      · have hE' : Hid (Lib.byteCells (esc (s.data.toList.take (k + 1))) = Lib.byteCells X ++ [.int .u8 45]) := by
          show _ = _
          rw [hE.out, h47]
          exact byteCells_snoc X 45
        have h47' : (c.toNat : Int) = 47 := by rw [h47]; rfl
        clear h47
        go_wp2_with fail
        refine (Tryd.Builder_WriteByte w.heap.size w.heap.size (Lib.byteCells X) 45 wr hB.out (by omega) hwz).mono ?_
        rintro e1 w1 ⟨rfl, h1, hb1⟩
        rw [← hE'.out] at h1
        go_wp2_with fail
        exact ⟨⟨k + 1, by omega, by go_num, .inr h1, hb.trans hb1⟩, by simp [intOf]; omega⟩
      · have h47' : ¬ (c.toNat : Int) = 47 := fun e => h47 (UInt8.toNat_inj.1 (by simp; omega))
        have h47b : (c == 47) = false := by simpa using h47
        clear h47
        cases hkp : kp (k == 0) c
        · have hE' : Hid (esc (s.data.toList.take (k + 1)) = X ++ [92, 120, hx (c.toNat / 16), hx (c.toNat % 16)]) := by
            show _ = _
            rw [hE.out, e1, h47b, hkp]; rfl
          have ha : al c = false := by unfold kp at hkp; simp at hkp; exact hkp.1.1.1
          have b58 : ((c.toNat : Int) == 58) = false := by
            rw [Bool.eq_false_iff]; intro e
            have : c = 58 := UInt8.toNat_inj.1 (by simp at e; simp; omega)
            rw [this] at hkp; simp [kp] at hkp
          have b95 : ((c.toNat : Int) == 95) = false := by
            rw [Bool.eq_false_iff]; intro e
            have : c = 95 := UInt8.toNat_inj.1 (by simp at e; simp; omega)
            rw [this] at hkp; simp [kp] at hkp
          have n46 : ((c.toNat : Int) == 46) = false ∨ (c.toNat : Int) = 46 ∧ k = 0 := by
            by_cases e : (c.toNat : Int) = 46
            · have : c = 46 := UInt8.toNat_inj.1 (by simp; omega)
              rw [this] at hkp; simp [kp] at hkp; exact .inr ⟨e, hkp.2⟩
            · exact .inl (by simpa using e)
          clear hkp
          have x1 := hx_at ⟨c.toNat / 16, by omega⟩
          have x2 := hx_at ⟨c.toNat % 16, by omega⟩
          simp only at x1 x2
          obtain ⟨H1, hH1⟩ : ∃ H1, hx (c.toNat / 16) = H1 := ⟨_, rfl⟩
          obtain ⟨H2, hH2⟩ : ∃ H2, hx (c.toNat % 16) = H2 := ⟨_, rfl⟩
          rw [hH1] at x1 hE'
          rw [hH2] at x2 hE'
          have hEc : Hid (Lib.byteCells (esc (s.data.toList.take (k + 1))) = Lib.byteCells X ++ Lib.strCells ⟨#[92, 120]⟩ ++ [.int .u8 H1.toNat] ++ [.int .u8 H2.toNat]) := by
            show _ = _
            rw [hE'.out, Lib.byteCells_append, Lib.strCells_eq]
            simp [Lib.byteCells]
          rcases n46 with n46 | ⟨n46, rfl⟩
          · clear hH1 hH2
            go_wp2_with (go_at_call 42; refine (lod_any c _).mono ?_; rintro e w' ⟨rfl, rfl⟩)
            refine (Tryd.Builder_WriteString w.heap.size w.heap.size (Lib.byteCells X) ⟨#[92, 120]⟩ _ hB.out (by show _ + 2 ≤ _; omega) hwz).mono ?_
            rintro e1 w1 ⟨rfl, h1, hb1⟩
            have hl1 : (Lib.byteCells X ++ Lib.strCells ⟨#[92, 120]⟩).length ≤ 5000000 := by rw [List.length_append, hXb]; show _ + 2 ≤ _; omega
            have hz1 := hb1.size
            go_wp2_with fail
            refine (Tryd.Builder_WriteByte w.heap.size w.heap.size _ H1.toNat w1 (.inr h1) (by omega) (by omega)).mono ?_
            rintro e1 w2 ⟨rfl, h2, hb2⟩
            have hz2 := hb2.size
            go_wp2_with fail
            refine (Tryd.Builder_WriteByte w.heap.size w.heap.size _ H2.toNat w2 (.inr h2) (by rw [List.length_append]; show _ + 1 + 1 ≤ _; omega) (by omega)).mono ?_
            rintro e1 w3 ⟨rfl, h3, hb3⟩
            rw [← hEc.out] at h3
            go_wp2_with fail
            exact ⟨⟨k + 1, by omega, by go_num, .inr h3, ((hb.trans hb1).trans hb2).trans hb3⟩, by simp [intOf]; omega⟩
          · have hlod := fun w => lod_any c w
            simp only [n46, ha] at hlod
            have hlod' : Hid _ := hlod
            have n46n : c.toNat = 46 := by omega
            rw [n46n] at hH1 hH2
            obtain rfl : (50 : UInt8) = H1 := hH1
            obtain rfl : (101 : UInt8) = H2 := hH2
            have hEc' : Hid (Lib.byteCells (esc (s.data.toList.take (0 + 1))) = Lib.byteCells X ++ Lib.strCells ⟨#[92, 120]⟩ ++ [.int .u8 50] ++ [.int .u8 101]) := hEc
            clear hlod x1 x2
            go_wp2_with (go_at_call 42; refine (hlod'.out _).mono ?_; rintro e w' ⟨rfl, rfl⟩)
            refine (Tryd.Builder_WriteString w.heap.size w.heap.size (Lib.byteCells X) ⟨#[92, 120]⟩ _ hB.out (by show _ + 2 ≤ _; omega) hwz).mono ?_
            rintro e1 w1 ⟨rfl, h1, hb1⟩
            have hl1 : (Lib.byteCells X ++ Lib.strCells ⟨#[92, 120]⟩).length ≤ 5000000 := by rw [List.length_append, hXb]; show _ + 2 ≤ _; omega
            have hz1 := hb1.size
            go_wp2_with fail
            refine (Tryd.Builder_WriteByte w.heap.size w.heap.size _ 50 w1 (.inr h1) (by omega) (by omega)).mono ?_
            rintro e1 w2 ⟨rfl, h2, hb2⟩
            have hz2 := hb2.size
            go_wp2_with fail
            refine (Tryd.Builder_WriteByte w.heap.size w.heap.size _ 101 w2 (.inr h2) (by rw [List.length_append]; show _ + 1 + 1 ≤ _; omega) (by omega)).mono ?_
            rintro e1 w3 ⟨rfl, h3, hb3⟩
            rw [← hEc'.out] at h3
            go_wp2_with fail
            exact ⟨⟨0 + 1, by omega, by go_num, .inr h3, ((hb.trans hb1).trans hb2).trans hb3⟩, by simp [intOf]; omega⟩
        · have hE' : Hid (Lib.byteCells (esc (s.data.toList.take (k + 1))) = Lib.byteCells X ++ [.int .u8 c.toNat]) := by
            show _ = _
            rw [hE.out, e1, h47b, hkp]
            exact byteCells_snoc X c
          have hkp' : Hid (kp (k == 0) c = true) := hkp
          clear hkp
          cases ha : al c
          · have h3 : (c.toNat : Int) = 58 ∨ (c.toNat : Int) = 95 ∨ ((c.toNat : Int) = 46 ∧ (0 : Int) < (k : Int)) := by
              have := hkp'.out
              unfold kp at this
              rw [ha] at this
              simp at this
              rcases this with (h | h) | ⟨h, h'⟩
              · left; rw [h]; rfl
              · right; left; rw [h]; rfl
              · right; right; rw [h]; exact ⟨rfl, by omega⟩
            rcases h3 with h3 | h3 | ⟨h3, hk0⟩
            all_goals
              have hlod := fun w => lod_any c w
              simp only [h3, ha] at hlod
              have hlod' : Hid _ := hlod
              clear hlod
              go_wp2_with (go_at_call 42; refine (hlod'.out _).mono ?_; rintro e w' ⟨rfl, rfl⟩)
              refine (Tryd.Builder_WriteByte w.heap.size w.heap.size (Lib.byteCells X) _ _ hB.out (by omega) hwz).mono ?_
              rintro e1 w1 ⟨rfl, h1, hb1⟩
              rw [← h3, ← hE'.out] at h1
              go_wp2_with fail
              exact ⟨⟨k + 1, by omega, by go_num, .inr h1, hb.trans hb1⟩, by simp [intOf]; omega⟩
          · go_wp2_with (go_at_call 42; refine (lod_any c _).mono ?_; rintro e w' ⟨rfl, rfl⟩)
            refine (Tryd.Builder_WriteByte w.heap.size w.heap.size (Lib.byteCells X) c.toNat _ hB.out (by omega) hwz).mono ?_
            rintro e1 w1 ⟨rfl, h1, hb1⟩
            rw [← hE'.out] at h1
            go_wp2_with fail
            exact ⟨⟨k + 1, by omega, by go_num, .inr h1, hb.trans hb1⟩, by simp [intOf]; omega⟩
    · obtain rfl : k = s.size := by omega
      have hT : s.data.toList.take s.size = s.data.toList := List.take_of_length_le (by rw [size_list]; omega)
      rw [hT] at hB
      clear hT
      go_wp2_with fail
      refine (Tryd.Builder_String_any w.heap.size w.heap.size (esc s.data.toList) wr hB.out hwz).mono ?_
      rintro e1 w1 ⟨rfl, hb1⟩
      go_wp2_with fail
      go_ret
      exact ⟨rfl, hb.trans hb1⟩
end Go.Proofs.YtimmieelpaoncaaDoor
