/- Contracts of package line's escaped, cutQuoted, cutWord, skipBlanks. -/
import Derived.Test.YtcihilaofehomaaDoorA1
namespace Go.Proofs.YtcihilaofehomaaDoor
open Go.RowKit Lin
def esV (o : Option UInt8) : Value := match o with
  | some c => .tuple #[.int .u8 c.toNat, .bool true]
  | none => .tuple #[.int .u8 0, .bool false]
/-- What stands behind a backslash. -/
def esH (l : L) : Option UInt8 := match l with
  | [] => none
  | c :: _ => es1 c
set_option maxHeartbeats 2000000 in
theorem escaped_any (s : ByteArray) (w : World) :
    Calls Tryd.prog 64 #[.string s] w fun e w' => e = .returned (esV (esH s.data.toList)) ∧ w' = w := by
  cases h0 : (s.toList == [])
  · have hz := size_pos h0
    obtain ⟨R, _, _, hl⟩ := uncons s hz
    have hE : Hid (esH s.data.toList = if s[0] = 34 ∨ s[0] = 39 ∨ s[0] = 92 then some s[0] else if s[0] = 110 then some 10 else none) := by show _ = _; rw [hl]; rfl
    clear hl
    obtain ⟨c, hc⟩ : ∃ c, s[0] = c := ⟨_, rfl⟩
    rw [hc] at hE
    have hzI : (0 : Int) < (s.size : Int) := by omega
    by_cases h1 : c = 34
    · have hR : Hid (esV (esH s.data.toList) = .tuple #[.int .u8 c.toNat, .bool true]) := by show _ = _; rw [hE.out, if_pos (.inl h1)]; rfl
      have h' : (c.toNat : Int) = 34 := by rw [h1]; rfl
      rw [h'] at hR
      clear h1
      go_enter Tryd.func64, Tryd.ntmps64
      go_wp2_with fail
      go_ret2
      exact ⟨by rw [hR.out]; rfl, rfl⟩
    have n1 : ¬ (c.toNat : Int) = 34 := u8_ne 34 h1
    by_cases h2 : c = 39
    · have hR : Hid (esV (esH s.data.toList) = .tuple #[.int .u8 c.toNat, .bool true]) := by show _ = _; rw [hE.out, if_pos (.inr (.inl h2))]; rfl
      have h' : (c.toNat : Int) = 39 := by rw [h2]; rfl
      rw [h'] at hR
      clear h1 h2 n1
      go_enter Tryd.func64, Tryd.ntmps64
      go_wp2_with fail
      go_ret2
      exact ⟨by rw [hR.out]; rfl, rfl⟩
    have n2 : ¬ (c.toNat : Int) = 39 := u8_ne 39 h2
    by_cases h3 : c = 92
    · have hR : Hid (esV (esH s.data.toList) = .tuple #[.int .u8 c.toNat, .bool true]) := by show _ = _; rw [hE.out, if_pos (.inr (.inr h3))]; rfl
      have h' : (c.toNat : Int) = 92 := by rw [h3]; rfl
      rw [h'] at hR
      clear h1 h2 h3 n1 n2
      go_enter Tryd.func64, Tryd.ntmps64
      go_wp2_with fail
      go_ret2
      exact ⟨by rw [hR.out]; rfl, rfl⟩
    have n3 : ¬ (c.toNat : Int) = 92 := u8_ne 92 h3
    rw [if_neg (by simp [h1, h2, h3])] at hE
    by_cases h4 : c = 110
    · have hR : Hid (esV (esH s.data.toList) = .tuple #[.int .u8 10, .bool true]) := by show _ = _; rw [hE.out, if_pos h4]; rfl
      have h' : (c.toNat : Int) = 110 := by rw [h4]; rfl
      clear h1 h2 h3 h4 n1 n2 n3
      go_enter Tryd.func64, Tryd.ntmps64
      go_wp2_with fail
      go_ret2
      exact ⟨by rw [hR.out]; rfl, rfl⟩
    · have hR : Hid (esV (esH s.data.toList) = .tuple #[.int .u8 0, .bool false]) := by show _ = _; rw [hE.out, if_neg h4]; rfl
      have n4 : ¬ (c.toNat : Int) = 110 := u8_ne 110 h4
      clear h1 h2 h3 h4
      go_enter Tryd.func64, Tryd.ntmps64
      go_wp2_with fail
      go_ret2
      exact ⟨by rw [hR.out]; rfl, rfl⟩
  · have hR : Hid (esH s.data.toList = none) := by show _ = _; rw [size_zero h0]; rfl
    go_enter Tryd.func64, Tryd.ntmps64
    go_wp2_with fail
    go_ret2
    exact ⟨by rw [hR.out]; rfl, rfl⟩
def cqV (o : Option (L × L)) : Value := match o with
  | some p => .tuple #[.string ⟨p.1.toArray⟩, .string ⟨p.2.toArray⟩, .bool true]
  | none => .tuple #[.string ⟨#[]⟩, .string ⟨#[]⟩, .bool false]
def strLen : Value → Nat
  | .string r => r.size
  | _ => 0
theorem cutQ_esc (q : UInt8) (r : L) (hq : q ≠ 92) : cutQ q (92 :: r) = (esH r).bind fun m => (cutQ q (r.drop 1)).map fun p => (m :: p.1, p.2) := by
  cases r with
  | nil => exact cutQ_bs0 q hq
  | cons d t => exact cutQ_bs q d t hq
theorem mapp (X : L) (c : UInt8) (o : Option (L × L)) : (o.map fun p => (c :: p.1, p.2)).map (fun p => (X ++ p.1, p.2)) = o.map fun p => ((X ++ [c]) ++ p.1, p.2) := by
  cases o <;> simp
set_option maxHeartbeats 4000000 in
theorem cutQuoted_any (s : ByteArray) (q : UInt8) (w : World) (hs : s.size ≤ 4000000) (hq : q ≠ 92) :
    Calls Tryd.prog 49 #[.string s, .int .u8 q.toNat] w fun e w' => e = .returned (cqV (cutQ q s.data.toList)) ∧ Below w.heap.size w w' := by
  have hfb := fresh_builder w
  have hql := q.toNat_lt
  go_enter Tryd.func49, Tryd.ntmps49
  go_wp2_with fail
  go_loopw [8] (fun i wr => ∃ (r : ByteArray) (X : L), i = .string r ∧ X.length + r.size ≤ s.size ∧ Hid (cutQ q s.data.toList = (cutQ q r.data.toList).map fun p => (X ++ p.1, p.2)) ∧ Hid (Lib.IsBuilder 68 5 w.heap.size w.heap.size (Lib.byteCells X) wr) ∧ Below w.heap.size w wr) (fun i _ => strLen i)
  case atStart => exact ⟨s, [], rfl, by simp, by show _ = _; cases cutQ q s.data.toList <;> rfl, hfb, (Below.refl _ _).alloc (Nat.le_refl _) _⟩
  case round =>
    obtain ⟨r, X, rfl, hl, hr, hB, hb⟩ := hrel
    have hwz := hb.size
    have hXb : (Lib.byteCells X).length = X.length := Lib.byteCells_length X
    cases hr0 : (r.toList == [])
    · have hr1 : (r.toList != []) = true := by rw [bne, hr0]; rfl
      have hrz := size_pos hr0
      have hrI : (1 : Int) ≤ (r.size : Int) := by omega
      obtain ⟨R, hR, hRz, hcons'⟩ := uncons r hrz
      obtain ⟨c, hc⟩ : ∃ c, r[0] = c := ⟨_, rfl⟩
      rw [hc] at hcons'
      have hcons : Hid (r.data.toList = c :: R.data.toList) := hcons'
      clear hcons'
      have hcl := c.toNat_lt
      by_cases hcq : c = q
      · have hT : Hid (cutQ q s.data.toList = some (X, R.data.toList)) := by
          show _ = _
          rw [hr.out, hcons.out, hcq, cutQ_end]; simp
        have hV : Hid (cqV (cutQ q s.data.toList) = .tuple #[.string ⟨X.toArray⟩, .string R, .bool true]) := by
          show _ = _
          rw [hT.out]
          show Value.tuple #[.string ⟨X.toArray⟩, .string ⟨R.data.toList.toArray⟩, .bool true] = _
          rw [Lib.mk_data]
        have hcq' : ((c.toNat : Int) == (q.toNat : Int)) = true := by rw [hcq]; simp
        clear hcq
        go_wp2_with fail
        refine (Tryd.Builder_String_any w.heap.size w.heap.size X wr hB.out hwz).mono ?_
        rintro e1 w1 ⟨rfl, hb1⟩
        go_wp2_with fail
        go_ret3
        exact ⟨by rw [hV.out]; rfl, hb.trans hb1⟩
      · have hcq' : ((c.toNat : Int) == (q.toNat : Int)) = false := by
          have := u8_ne q hcq
          simpa using this
        by_cases h92 : c = 92
        · have h92' : (c.toNat : Int) = 92 := by rw [h92]; rfl
          have hrd : Hid (cutQ q s.data.toList = ((esH R.data.toList).bind fun m => (cutQ q (R.data.toList.drop 1)).map fun p => (m :: p.1, p.2)).map fun p => (X ++ p.1, p.2)) := by
            show _ = _
            rw [hr.out, hcons.out, h92, cutQ_esc _ _ hq]
          have hes := fun w => escaped_any R w
          rw [h92'] at hcq'
          clear h92 hcq
          cases hm : esH R.data.toList with
          | none =>
            have hT : Hid (cutQ q s.data.toList = none) := by show _ = _; rw [hrd.out, hm]; rfl
            rw [hm] at hes
            have hes' : Hid (∀ w, Calls Tryd.prog 64 #[.string R] w fun e w' => e = .returned (.tuple #[.int .u8 0, .bool false]) ∧ w' = w) := hes
            clear hes hm
            go_wp2_with fail
            refine (hes'.out _).mono ?_
            rintro e1 w1 ⟨rfl, rfl⟩
            go_wp2_with fail
            go_ret3
            exact ⟨by rw [hT.out]; rfl, hb⟩
          | some m =>
            have hRp : 0 < R.size := by
              rw [← size_list]
              refine List.length_pos_iff.2 fun e => ?_
              rw [e] at hm; cases hm
            obtain ⟨T, hTe, hTz, hTc⟩ := uncons R hRp
            have hTl : R.data.toList.drop 1 = T.data.toList := by rw [hTc]; rfl
            have hT : Hid (cutQ q s.data.toList = (cutQ q T.data.toList).map fun p => ((X ++ [m]) ++ p.1, p.2)) := by
              show _ = _
              rw [hrd.out, hm, hTl, Option.bind_some, mapp]
            rw [hm] at hes
            have hes' : Hid (∀ w, Calls Tryd.prog 64 #[.string R] w fun e w' => e = .returned (.tuple #[.int .u8 m.toNat, .bool true]) ∧ w' = w) := hes
            have hRI : (1 : Int) ≤ (R.size : Int) := by omega
            clear hes hm hTc hTl
            go_wp2_with fail
            refine (hes'.out _).mono ?_
            rintro e1 w1 ⟨rfl, rfl⟩
            go_wp2_with fail
            go_quiet (fail)
            go_wp2_with fail
            refine (Tryd.Builder_WriteByte w.heap.size w.heap.size (Lib.byteCells X) m.toNat _ (drewN_builder hB.out _) (by omega) hwz).mono ?_
            rintro e1 w2 ⟨rfl, h1, hb1⟩
            rw [← byteCells_snoc] at h1
            go_wp2_with fail
            exact ⟨⟨T, X ++ [m], rfl, by simp; omega, hT, .inr h1, (below_drewN hb _).trans hb1⟩, by simp [strLen]; omega⟩
        · have h92' : ¬ (c.toNat : Int) = 92 := u8_ne 92 h92
          have hT : Hid (cutQ q s.data.toList = (cutQ q R.data.toList).map fun p => ((X ++ [c]) ++ p.1, p.2)) := by
            show _ = _
            rw [hr.out, hcons.out, cutQ_plain _ _ _ hcq h92, mapp]
          clear h92 hcq
          go_wp2_with fail
          refine (Tryd.Builder_WriteByte w.heap.size w.heap.size (Lib.byteCells X) c.toNat _ hB.out (by omega) hwz).mono ?_
          rintro e1 w1 ⟨rfl, h1, hb1⟩
          rw [← byteCells_snoc] at h1
          go_wp2_with fail
          exact ⟨⟨R, X ++ [c], rfl, by simp; omega, hT, .inr h1, hb.trans hb1⟩, by simp [strLen]; omega⟩
    · have hT : Hid (cutQ q s.data.toList = none) := by show _ = _; rw [hr.out, size_zero hr0]; rfl
      have hr1 : (r.toList != []) = false := by rw [bne, hr0]; rfl
      go_wp2_with fail
      go_ret3
      exact ⟨by rw [hT.out]; rfl, hb⟩
set_option maxHeartbeats 1000000 in
theorem skip_any (s : ByteArray) (w : World) :
    Calls Tryd.prog 28 #[.string s] w fun e w' => e = .returned (.string ⟨(trimL s.data.toList).toArray⟩) ∧ Below w.heap.size w w' := by
  have ht := Tryd.trimLeft_any s w
  go_enter Tryd.func28, Tryd.ntmps28
  go_wp2_with fail
  refine ht.mono ?_
  rintro e w1 ⟨rfl, hb⟩
  go_wp2_with fail
  go_ret
  exact ⟨rfl, hb⟩
end Go.Proofs.YtcihilaofehomaaDoor
