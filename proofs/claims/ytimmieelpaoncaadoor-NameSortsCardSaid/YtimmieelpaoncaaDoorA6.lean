/- Contracts of package name's cutNumber, read, Unescape. -/
import Derived.Test.YtimmieelpaoncaaDoorA5
import Derived.OwnWalk
namespace Go.Proofs.YtimmieelpaoncaaDoor
open Go.RowKit Nam
abbrev hexS : ByteArray := ⟨#[48, 49, 50, 51, 52, 53, 54, 55, 56, 57, 97, 98, 99, 100, 101, 102]⟩
theorem ix_hex : ∀ c : UInt8, Lib.indexByte hexS.data.toList c = uhI c := by
  refine all8 _ ?_
  decide +kernel
theorem uhI_none {c : UInt8} (h : uhI c < 0) : uh c = none := by
  unfold uhI at h
  cases hu : uh c with
  | none => rfl
  | some a => rw [hu] at h; simp at h; omega
theorem uhI_some : ∀ c : UInt8, ¬ uhI c < 0 → ∃ a : Nat, uh c = some a ∧ uhI c = a ∧ a < 16 := by
  refine all8 _ ?_
  intro n
  have h : ∀ n : Fin 256, uh (UInt8.ofNat n.val) = none ∨ (uh (UInt8.ofNat n.val)).getD 0 < 16 := by decide +kernel
  intro hn
  unfold uhI at hn ⊢
  cases hu : uh (UInt8.ofNat n.val) with
  | none => rw [hu] at hn; simp at hn
  | some a =>
    have := h n
    rw [hu] at this
    simp at this
    exact ⟨a, rfl, rfl, this⟩
theorem nb_short {l : L} (h : l.length < 3) : nb l = none := by
  match l, h with
  | [], _ => rfl
  | [_], _ => rfl
  | [_, _], _ => rfl
def nbV (o : Option (UInt8 × L)) : Value := match o with
  | some p => .tuple #[.int .u8 p.1.toNat, .string ⟨p.2.toArray⟩, .bool true]
  | none => .tuple #[.int .u8 0, .string ⟨#[]⟩, .bool false]
theorem or_hex : ∀ x y : Fin 16, bits BinOp.or IntKind.i64 ((x.val : Int) * 16) (y.val : Int) % 256 = ((UInt8.ofNat (16 * x.val + y.val)).toNat : Int) := by decide +kernel
theorem ret_3 {a b : Int} {s t : ByteArray} (h1 : a = b) (h2 : s = t) : Ending.returned (.tuple #[.int .u8 a, .string s, .bool true]) = .returned (.tuple #[.int .u8 b, .string t, .bool true]) := by rw [h1, h2]
set_option maxHeartbeats 4000000 in
theorem cutNumber_any (s : ByteArray) (w : World) (hs : s.size ≤ 4000000) :
    Calls Tryd.prog 58 #[.string s] w fun e w' => e = .returned (nbV (nb s.data.toList)) ∧ ∃ n, w' = w.drewN n := by
  by_cases h3 : s.size < 3
  · have hN : Hid (nb s.data.toList = none) := nb_short (by rw [size_list]; exact h3)
    go_enter Tryd.func58, Tryd.ntmps58
    go_wp2_with fail
    go_ret3
    exact ⟨by rw [hN.out]; rfl, 0, rfl⟩
  · have hN : Hid (nb s.data.toList = (hv s[0] s[1] s[2]).map fun b => (b, s.data.toList.drop 3)) := by
      show _ = _
      rw [show s.data.toList = s[0] :: s[1] :: s[2] :: s.data.toList.drop 3 by
        have e0 := List.drop_eq_getElem_cons (l := s.data.toList) (i := 0) (by rw [size_list]; omega)
        have e1 := List.drop_eq_getElem_cons (l := s.data.toList) (i := 1) (by rw [size_list]; omega)
        have e2 := List.drop_eq_getElem_cons (l := s.data.toList) (i := 2) (by rw [size_list]; omega)
        rw [List.drop_zero] at e0
        rw [e0, e1, e2]
        simp
        exact ⟨rfl, rfl, rfl⟩]
      rfl
    have hz3 : (3 : Int) ≤ (s.size : Int) := by omega
    obtain ⟨a, ha⟩ : ∃ a, s[0] = a := ⟨_, rfl⟩
    obtain ⟨b, hb⟩ : ∃ b, s[1] = b := ⟨_, rfl⟩
    obtain ⟨c, hc⟩ : ∃ c, s[2] = c := ⟨_, rfl⟩
    rw [ha, hb, hc] at hN
    by_cases h120 : a = 120
    · have h120' : (a.toNat : Int) = 120 := by rw [h120]; rfl
      obtain ⟨B, hB⟩ : ∃ B, uhI b = B := ⟨_, rfl⟩
      obtain ⟨C, hC⟩ : ∃ C, uhI c = C := ⟨_, rfl⟩
      have i1 : ∀ w, Calls Tryd.prog 67 #[.string ⟨#[48, 49, 50, 51, 52, 53, 54, 55, 56, 57, 97, 98, 99, 100, 101, 102]⟩, .int .u8 b.toNat] w fun e w' => e = .returned (.int .i64 B) ∧ w' = w := fun w => by
        have := indexByte_any hexS b w
        rwa [ix_hex, hB] at this
      have i2 : ∀ w, Calls Tryd.prog 67 #[.string ⟨#[48, 49, 50, 51, 52, 53, 54, 55, 56, 57, 97, 98, 99, 100, 101, 102]⟩, .int .u8 c.toNat] w fun e w' => e = .returned (.int .i64 C) ∧ w' = w := fun w => by
        have := indexByte_any hexS c w
        rwa [ix_hex, hC] at this
      have j1 : Hid (∀ w, _) := i1
      have j2 : Hid (∀ w, _) := i2
      clear i1 i2
      by_cases hBn : B < 0
      · have hR : Hid (nb s.data.toList = none) := by show _ = _; rw [hN.out, hv, if_pos h120, uhI_none (by omega)]; rfl
        clear h120
        go_enter Tryd.func58, Tryd.ntmps58
        go_wp2_with fail
        go_quiet (first | (go_at_call_of 67 (Value.int .u8 b.toNat); exact Calls.quiet_of_same (j1.out _)) | (go_at_call_of 67 (Value.int .u8 c.toNat); exact Calls.quiet_of_same (j2.out _)))
        go_wp2_with fail
        go_ret3
        exact ⟨by rw [hR.out]; rfl, _, rfl⟩
      · by_cases hCn : C < 0
        · have hR : Hid (nb s.data.toList = none) := by
            show _ = _
            rw [hN.out, hv, if_pos h120, uhI_none (c := c) (by omega)]
            cases uh b <;> rfl
          clear h120
          have hBn' : decide (B < 0) = false := by simpa using hBn
          go_enter Tryd.func58, Tryd.ntmps58
          go_wp2_with fail
          go_quiet (first | (go_at_call_of 67 (Value.int .u8 b.toNat); exact Calls.quiet_of_same (j1.out _)) | (go_at_call_of 67 (Value.int .u8 c.toNat); exact Calls.quiet_of_same (j2.out _)))
          go_wp2_with fail
          go_ret3
          exact ⟨by rw [hR.out]; rfl, _, rfl⟩
        · obtain ⟨x, hx1, hx2, hx3⟩ := uhI_some b (by omega)
          obtain ⟨y, hy1, hy2, hy3⟩ := uhI_some c (by omega)
          have hR : Hid (nb s.data.toList = some (UInt8.ofNat (16 * x + y), s.data.toList.drop 3)) := by
            show _ = _
            rw [hN.out, hv, if_pos h120, hx1, hy1]; rfl
          obtain rfl : B = x := by omega
          obtain rfl : C = y := by omega
          have hBn' : decide ((x : Int) < 0) = false := by simp
          have hCn' : decide ((y : Int) < 0) = false := by simp
          clear h120 hx1 hx2 hy1 hy2 hB hC
          go_enter Tryd.func58, Tryd.ntmps58
          go_wp2_with fail
          go_quiet (first | (go_at_call_of 67 (Value.int .u8 b.toNat); exact Calls.quiet_of_same (j1.out _)) | (go_at_call_of 67 (Value.int .u8 c.toNat); exact Calls.quiet_of_same (j2.out _)))
          go_wp2_with fail
          go_quiet (fail)
          go_wp2_with fail
          go_ret3
          refine ⟨?_, _, World.drewN_drewN _ _ _⟩
          rw [hR.out]
          refine ret_3 (or_hex ⟨x, hx3⟩ ⟨y, hy3⟩) ?_
          rw [Lib.extract_eq, List.take_of_length_le (by rw [List.length_drop, size_list]; exact Nat.le_refl _)]
    · have hR : Hid (nb s.data.toList = none) := by show _ = _; rw [hN.out, hv, if_neg h120]; rfl
      have h120' : ¬ (a.toNat : Int) = 120 := fun e => h120 (UInt8.toNat_inj.1 (by simp; omega))
      have h120b : ((a.toNat : Int) != 120) = true := by simpa using h120'
      clear h120
      go_enter Tryd.func58, Tryd.ntmps58
      go_wp2_with fail
      go_ret3
      exact ⟨by rw [hR.out]; rfl, 0, rfl⟩
def rdV (o : Option L) : Value := match o with
  | some t => .tuple #[.string ⟨t.toArray⟩, .bool true]
  | none => .tuple #[.string ⟨#[]⟩, .bool false]
def strLen : Value → Nat
  | .string r => r.size
  | _ => 0
theorem map_none' {f : L → L} : Option.map f none = none := rfl
theorem drewN_builder {T e : TypeId} {B b : Nat} {bs : List Value} {w : World} (h : Lib.IsBuilder T e B b bs w) (n : Nat) : Lib.IsBuilder T e B b bs (w.drewN n) := by
  rcases h with ⟨h1, v, h2, h3, h4⟩ | ⟨h1, v, h2, h3, h4⟩
  · exact .inl ⟨h1, v, h2, h3, h4⟩
  · exact .inr ⟨h1, v, h2, h3, h4⟩
set_option maxHeartbeats 4000000 in
theorem read_any (s : ByteArray) (w : World) (hs : s.size ≤ 4000000) :
    Calls Tryd.prog 46 #[.string s] w fun e w' => e = .returned (rdV (rd s.data.toList)) ∧ Below w.heap.size w w' := by
  have hfb := fresh_builder w
  go_enter Tryd.func46, Tryd.ntmps46
  go_wp2_with fail
  go_loopw [5] (fun i wr => ∃ (r : ByteArray) (X : L), i = .string r ∧ X.length + r.size ≤ s.size ∧ Hid (rd s.data.toList = (rd r.data.toList).map (X ++ ·)) ∧ Hid (Lib.IsBuilder 53 5 w.heap.size w.heap.size (Lib.byteCells X) wr) ∧ Below w.heap.size w wr) (fun i _ => strLen i)
  case atStart => exact ⟨s, [], rfl, by simp, by show _ = _; cases rd s.data.toList <;> rfl, hfb, (Below.refl _ _).alloc (Nat.le_refl _) _⟩
  case round =>
    obtain ⟨r, X, rfl, hl, hr, hB, hb⟩ := hrel
    have hwz := hb.size
    have hXb : (Lib.byteCells X).length = X.length := Lib.byteCells_length X
    cases hr0 : (r.toList == [])
    · have hr1 : (r.toList != []) = true := by rw [bne, hr0]; rfl
      have hne : r.data.toList ≠ [] := fun e => by rw [Lib.toList_data, e] at hr0; cases hr0
      have hrz : 0 < r.size := by
        rw [← size_list]; exact List.length_pos_iff.2 hne
      have hrI : (1 : Int) ≤ (r.size : Int) := by omega
      obtain ⟨R, hR⟩ : ∃ R, r.extract 1 r.size = R := ⟨_, rfl⟩
      have hRl : Hid (R.data.toList = r.data.toList.drop 1) := by
        show _ = _
        rw [← hR, Lib.extract_data, List.take_of_length_le (by rw [List.length_drop, size_list]; exact Nat.le_refl _)]
      have hRz : R.size + 1 = r.size := by
        have := congrArg List.length hRl.out
        rw [size_list, List.length_drop, size_list] at this; omega
      obtain ⟨c, hc⟩ : ∃ c, r[0] = c := ⟨_, rfl⟩
      have hcons : Hid (r.data.toList = c :: R.data.toList) := by
        show _ = _
        rw [hRl.out, ← hc]
        have := List.drop_eq_getElem_cons (l := r.data.toList) (i := 0) (by rw [size_list]; omega)
        rw [List.drop_zero] at this
        exact this
      clear hne
      have hcl := c.toNat_lt
      by_cases h92 : c = 92
      · have h92' : (c.toNat : Int) = 92 := by rw [h92]; rfl
        have hrd : Hid (rd s.data.toList = ((nb R.data.toList).bind fun p => (rd p.2).map (p.1 :: ·)).map (X ++ ·)) := by
          show _ = _
          rw [hr.out, hcons.out, h92, rd_bs]
        have hcn := fun w => cutNumber_any R w (by omega)
        clear h92
        cases hnb : nb R.data.toList with
        | none =>
          have hT : Hid (rd s.data.toList = none) := by show _ = _; rw [hrd.out, hnb]; rfl
          rw [hnb] at hcn
          have hcn' : Hid (∀ w, Calls Tryd.prog 58 #[.string R] w fun e w' => e = .returned (.tuple #[.int .u8 0, .string ⟨#[]⟩, .bool false]) ∧ ∃ n, w' = w.drewN n) := hcn
          clear hcn hnb
          go_wp2_with fail
          refine (hcn'.out _).mono ?_
          rintro e1 w1 ⟨rfl, n, rfl⟩
          go_wp2_with fail
          go_ret2
          exact ⟨by rw [hT.out]; rfl, below_drewN hb _⟩
        | some p =>
          obtain ⟨d, t⟩ := p
          have hlen := nb_len hnb
          obtain ⟨T, rfl, hTz, hTe⟩ := letters t
          have hT : Hid (rd s.data.toList = (rd T.data.toList).map ((X ++ [d]) ++ ·)) := by
            show _ = _
            rw [hrd.out, hnb]
            show ((rd T.data.toList).map (d :: ·)).map (X ++ ·) = _
            cases rd T.data.toList <;> simp
          rw [hnb] at hcn
          have hcn' : Hid (∀ w, Calls Tryd.prog 58 #[.string R] w fun e w' => e = .returned (.tuple #[.int .u8 d.toNat, .string T, .bool true]) ∧ ∃ n, w' = w.drewN n) := by
            intro w
            have := hcn w
            unfold nbV at this
            simp only [hTe] at this
            exact this
          have hTs : T.size + 3 = R.size := by rw [size_list] at hlen; rw [hTz]; exact hlen
          clear hcn hnb hlen hTz hTe
          go_wp2_with fail
          refine (hcn'.out _).mono ?_
          rintro e1 w1 ⟨rfl, n, rfl⟩
          go_wp2_with fail
          refine (Tryd.Builder_WriteByte w.heap.size w.heap.size (Lib.byteCells X) d.toNat _ (drewN_builder hB.out n) (by omega) hwz).mono ?_
          rintro e1 w1 ⟨rfl, h1, hb1⟩
          rw [← byteCells_snoc] at h1
          go_wp2_with fail
          exact ⟨⟨T, X ++ [d], rfl, by simp; omega, hT, .inr h1, (below_drewN hb n).trans hb1⟩, by simp [strLen]; omega⟩
      · have h92' : ¬ (c.toNat : Int) = 92 := fun e => h92 (UInt8.toNat_inj.1 (by simp; omega))
        by_cases h45 : c = 45
        · have h45' : (c.toNat : Int) = 45 := by rw [h45]; rfl
          have hT : Hid (rd s.data.toList = (rd R.data.toList).map ((X ++ [47]) ++ ·)) := by
            show _ = _
            rw [hr.out, hcons.out, rd_plain _ _ h92, if_pos h45]
            cases rd R.data.toList <;> simp
          clear h92 h45
          go_wp2_with fail
          refine (Tryd.Builder_WriteByte w.heap.size w.heap.size (Lib.byteCells X) 47 _ hB.out (by omega) hwz).mono ?_
          rintro e1 w1 ⟨rfl, h1, hb1⟩
          rw [show (47 : Int) = ((47 : UInt8).toNat : Int) from rfl, ← byteCells_snoc] at h1
          go_wp2_with fail
          exact ⟨⟨R, X ++ [47], rfl, by simp; omega, hT, .inr h1, hb.trans hb1⟩, by simp [strLen]; omega⟩
        · have h45' : ¬ (c.toNat : Int) = 45 := fun e => h45 (UInt8.toNat_inj.1 (by simp; omega))
          have hT : Hid (rd s.data.toList = (rd R.data.toList).map ((X ++ [c]) ++ ·)) := by
            show _ = _
            rw [hr.out, hcons.out, rd_plain _ _ h92, if_neg h45]
            cases rd R.data.toList <;> simp
          clear h92 h45
          go_wp2_with fail
          refine (Tryd.Builder_WriteByte w.heap.size w.heap.size (Lib.byteCells X) c.toNat _ hB.out (by omega) hwz).mono ?_
          rintro e1 w1 ⟨rfl, h1, hb1⟩
          rw [← byteCells_snoc] at h1
          go_wp2_with fail
          exact ⟨⟨R, X ++ [c], rfl, by simp; omega, hT, .inr h1, hb.trans hb1⟩, by simp [strLen]; omega⟩
    · have hre : r.data.toList = [] := by rw [Lib.toList_data] at hr0; simpa using hr0
      have hT : Hid (rd s.data.toList = some X) := by show _ = _; rw [hr.out, hre, rd_nil]; simp
      have hr1 : (r.toList != []) = false := by rw [bne, hr0]; rfl
      clear hre
      go_wp2_with fail
      refine (Tryd.Builder_String_any w.heap.size w.heap.size X wr hB.out hwz).mono ?_
      rintro e1 w1 ⟨rfl, hb1⟩
      go_wp2_with fail
      go_ret2
      exact ⟨by rw [hT.out]; rfl, hb.trans hb1⟩
end Go.Proofs.YtimmieelpaoncaaDoor
