import Derived.Lib.ItoaNum
import Derived.Test.YtfjbonhlokbhpaaDoorZG
import Derived.Laws.IdiomStrings
import Derived.Laws.Concat
import Derived.Deep.AppendLies
/- The text of a moment: two digits a number, four a year; how texts of moments compare. -/
namespace Go.Proofs.YtfjbonhlokbhpaaDoor.Civ
def d2 (n : Nat) : List UInt8 := [UInt8.ofNat (48 + n / 10), UInt8.ofNat (48 + n % 10)]
def d4 (n : Nat) : List UInt8 := d2 (n / 100) ++ d2 (n % 100)
def txt (y m d h mi s : Nat) : List UInt8 := d4 y ++ ([45] ++ (d2 m ++ ([45] ++ (d2 d ++ ([32] ++ (d2 h ++ ([58] ++ (d2 mi ++ ([58] ++ d2 s)))))))))
theorem dec_step {u : Nat} (h : ¬ u < 10) : Lib.decDigits u = Lib.decDigits (u / 10) ++ [UInt8.ofNat (48 + u % 10)] := by rw [Lib.decDigits, dif_neg h]
theorem dec_d2 {n : Nat} (h0 : 10 ≤ n) (h1 : n < 100) : Lib.decDigits n = d2 n := by
  rw [dec_step (by omega), Lib.decDigits_one (by omega)]; rfl
theorem dec_d1 {n : Nat} (h1 : n < 10) : [48] ++ Lib.decDigits n = d2 n := by
  rw [Lib.decDigits_one h1]
  unfold d2
  rw [show n / 10 = 0 by omega, show n % 10 = n by omega]; rfl
theorem dec_d4 {n : Nat} (h0 : 1000 ≤ n) (h1 : n < 10000) : Lib.decDigits n = d4 n := by
  rw [dec_step (by omega), dec_step (by omega), dec_d2 (by omega) (by omega)]
  unfold d4 d2
  rw [show n / 10 / 10 = n / 100 by omega, show n / 10 % 10 = n % 100 / 10 by omega, show n % 10 = n % 100 % 10 by omega]
  rfl
theorem itoa_d4 {n : Nat} (h0 : 1000 ≤ n) (h1 : n < 10000) : Lib.itoa (n : Int) = d4 n := by
  unfold Lib.itoa; rw [if_neg (by omega)]; exact dec_d4 h0 h1
theorem ofNat_lt {a b : Nat} (ha : a < 256) (hb : b < 256) : UInt8.ofNat a < UInt8.ofNat b ↔ a < b := by
  rw [UInt8.lt_iff_toNat_lt]; simp [Nat.mod_eq_of_lt ha, Nat.mod_eq_of_lt hb]
theorem ofNat_eq {a b : Nat} (ha : a < 256) (hb : b < 256) : UInt8.ofNat a = UInt8.ofNat b ↔ a = b := by
  rw [← UInt8.toNat_inj]; simp [Nat.mod_eq_of_lt ha, Nat.mod_eq_of_lt hb]
theorem d2_lt {a b : Nat} (ha : a < 100) (hb : b < 100) (l m : List UInt8) : d2 a ++ l < d2 b ++ m ↔ a < b ∨ a = b ∧ l < m := by
  unfold d2
  simp only [List.cons_append, List.nil_append, List.cons_lt_cons_iff]
  rw [ofNat_lt (by omega) (by omega), ofNat_lt (by omega) (by omega), ofNat_eq (by omega) (by omega), ofNat_eq (by omega) (by omega)]
  by_cases hl : l < m
  · simp only [hl, and_true]; omega
  · simp only [hl, and_false, or_false]; omega
theorem d2_lt0 {a b : Nat} (ha : a < 100) (hb : b < 100) : d2 a < d2 b ↔ a < b := by
  have := d2_lt ha hb [] []
  simpa using this
theorem d4_lt {a b : Nat} (ha : a < 10000) (hb : b < 10000) (l m : List UInt8) : d4 a ++ l < d4 b ++ m ↔ a < b ∨ a = b ∧ l < m := by
  unfold d4
  rw [List.append_assoc, List.append_assoc, d2_lt (by omega) (by omega), d2_lt (by omega) (by omega)]
  by_cases hl : l < m
  · simp only [hl, and_true]; omega
  · simp only [hl, and_false, or_false]; omega
theorem one_lt (c : UInt8) (l m : List UInt8) : [c] ++ l < [c] ++ m ↔ l < m := by
  simp only [List.cons_append, List.nil_append, List.cons_lt_cons_iff]
  simp
theorem txt_lt {y m d h mi s y' m' d' h' mi' s' : Nat} (a1 : y < 10000) (a2 : m < 100) (a3 : d < 100) (a4 : h < 100) (a5 : mi < 100) (a6 : s < 100) (b1 : y' < 10000) (b2 : m' < 100) (b3 : d' < 100) (b4 : h' < 100) (b5 : mi' < 100) (b6 : s' < 100) :
    txt y m d h mi s < txt y' m' d' h' mi' s' ↔ y < y' ∨ y = y' ∧ (m < m' ∨ m = m' ∧ (d < d' ∨ d = d' ∧ (h < h' ∨ h = h' ∧ (mi < mi' ∨ mi = mi' ∧ s < s')))) := by
  unfold txt
  rw [d4_lt a1 b1, one_lt, d2_lt a2 b2, one_lt, d2_lt a3 b3, one_lt, d2_lt a4 b4, one_lt, d2_lt a5 b5, one_lt, d2_lt0 a6 b6]
theorem d2_len (n : Nat) : (d2 n).length = 2 := rfl
theorem d4_len (n : Nat) : (d4 n).length = 4 := rfl
end Go.Proofs.YtfjbonhlokbhpaaDoor.Civ
/- Contracts of the reference's Digits, at 0 and above, and of its Padded at the widths of a moment's text. -/
namespace Go.Proofs.YtfjbonhlokbhpaaDoor
open Go.RowKit
theorem conv1 (W : World) (d : Nat) (h : d < 10) (x : Int) (hx : x = 48 + (d : Int)) : (convert 105 9 (.slice (some ⟨W.heap.size, 0, none⟩) 1 1)).run Tryd.prog (W.alloc (.cells #[.int .u8 x] 5)) = .ok (.string ⟨[UInt8.ofNat (48 + d)].toArray⟩) (W.alloc (.cells #[.int .u8 x] 5)) := by
  refine run_convert_bytes_back _ 105 9 5 ⟨W.heap.size, 0, none⟩ 1 [UInt8.ofNat (48 + d)] Tryd.underlying105 Tryd.underlying5 Tryd.underlying9 ?_
  intro j hj
  obtain rfl : j = 0 := by simpa using hj
  exact World.news_of_block (cs := #[.int .u8 x]) (t := 5) (fr := (0, 0)) (heap_alloc_new W _) 0 _ (by simp [hx]; omega)
theorem dec_len4 {u : Nat} (h : u < 10000) : (Lib.decDigits u).length ≤ 4 := by
  by_cases h1 : u < 10
  · rw [Lib.decDigits_one h1]; simp
  · by_cases h2 : u < 100
    · rw [Civ.dec_d2 (by omega) h2]; simp [Civ.d2]
    · by_cases h3 : u < 1000
      · rw [Civ.dec_step h1, Civ.dec_d2 (by omega) (by omega)]; simp [Civ.d2]
      · rw [Civ.dec_d4 (by omega) h]; simp [Civ.d4, Civ.d2]
set_option maxRecDepth 100000 in
set_option maxHeartbeats 1000000 in
theorem digits_any (n : Nat) (w : World) (hn : n < 10000) :
    Calls Tryd.prog 31 #[.int .i64 n] w fun e w' => e = .returned (.string ⟨(Lib.decDigits n).toArray⟩) ∧ Below w.heap.size w w' := by
  have h19 := dec_len4 hn
  go_enter Tryd.func31, Tryd.ntmps31
  go_wp2
  go_loopw [3, 4] (fun uu ss wr => ∃ (u : Nat) (s : List UInt8), uu = .int .u64 u ∧ ss = .string ⟨s.toArray⟩ ∧ u ≤ n ∧ s.length ≤ 20 ∧ Below w.heap.size w wr ∧ Hid (Lib.decDigits n = Lib.decDigits u ++ s)) (fun uu _ _ => (intOf uu).toNat)
  case atStart => exact ⟨n, [], by simp, rfl, Nat.le_refl _, by simp, Below.refl _ _, by show _ = _; simp⟩
  case round =>
    obtain ⟨u, s, rfl, rfl, hu, hs, hb, hh⟩ := hrel
    have hsz := hb.size
    have hcv := conv1 wr (u % 10) (by omega) (48 + (u : Int) % 10) (by omega)
    have hdec : Hid (Lib.decDigits n = (if u < 10 then [] else Lib.decDigits (u / 10)) ++ (UInt8.ofNat (48 + u % 10) :: s)) := by
      show _ = _
      rw [hh.out]
      by_cases h10 : u < 10
      · rw [if_pos h10, Lib.decDigits_one h10, Nat.mod_eq_of_lt h10]; rfl
      · rw [if_neg h10, Civ.dec_step h10]; simp
    clear hh
    generalize UInt8.ofNat (48 + u % 10) = c at hcv hdec
    have hadd : ∀ W, (Op.stringOp .add ⟨[c].toArray⟩ ⟨s.toArray⟩).run Tryd.prog W = .ok (.string ⟨(c :: s).toArray⟩) W := fun W => run_string_add_lists W [c] _ (by simp) (by omega)
    by_cases h10 : u < 10
    · have hz : ((u : Int) / 10 == 0) = true := by simp; omega
      go_wp2
      go_ret
      refine ⟨?_, hb.alloc hsz _⟩
      rw [hdec.out, if_pos h10]
      rfl
    · have hz : ((u : Int) / 10 == 0) = false := by simp; omega
      have hlen : Hid ((c :: s).length ≤ 20) := by
        show _ ≤ _
        have := congrArg List.length hdec.out
        rw [List.length_append] at this
        omega
      go_wp2
      exact ⟨⟨u / 10, c :: s, by go_num, rfl, by omega, hlen.out, hb.alloc hsz _, by show _ = _; rw [hdec.out, if_neg h10]⟩, by simp [intOf]; omega⟩
set_option maxRecDepth 100000 in
set_option maxHeartbeats 1000000 in
/-- A text that is long enough stays. -/
theorem pad_long (n k : Nat) (w : World) (hn : n < 10000) (hk : k ≤ (Lib.decDigits n).length) :
    Calls Tryd.prog 16 #[.int .i64 n, .int .i64 k] w fun e w' => e = .returned (.string ⟨(Lib.decDigits n).toArray⟩) ∧ Below w.heap.size w w' := by
  have hl := digits_any n w hn
  have h4 := dec_len4 hn
  generalize Lib.decDigits n = D at *
  go_enter Tryd.func16, Tryd.ntmps16
  go_wp2_with fail
  refine hl.mono ?_
  rintro e w1 ⟨rfl, hb1⟩
  go_wp2_with fail
  go_loop [5] (fun s => s = .string ⟨D.toArray⟩) (fun _ => 0)
  case atStart => rfl
  case round =>
    subst hrel
    go_wp2_with fail
    go_ret
    exact ⟨rfl, hb1⟩
set_option maxRecDepth 100000 in
set_option maxHeartbeats 1000000 in
theorem pad_one (n : Nat) (w : World) (hn : n < 10) :
    Calls Tryd.prog 16 #[.int .i64 n, .int .i64 2] w fun e w' => e = .returned (.string ⟨(Civ.d2 n).toArray⟩) ∧ Below w.heap.size w w' := by
  have hl := digits_any n w (by omega)
  have hd : Hid ([48] ++ Lib.decDigits n = Civ.d2 n) := Civ.dec_d1 hn
  have h1 : (Lib.decDigits n).length = 1 := by rw [Lib.decDigits_one hn]; rfl
  have hadd : ∀ W, (Op.stringOp .add ⟨#[48]⟩ ⟨(Lib.decDigits n).toArray⟩).run Tryd.prog W = .ok (.string ⟨([48] ++ Lib.decDigits n).toArray⟩) W := fun W => run_string_add_lists W [48] _ (by simp) (by omega)
  have h2 : (Civ.d2 n).length = 2 := rfl
  rw [hd.out] at hadd
  generalize Lib.decDigits n = D at *
  generalize Civ.d2 n = E at *
  go_enter Tryd.func16, Tryd.ntmps16
  go_wp2_with fail
  refine hl.mono ?_
  rintro e w1 ⟨rfl, hb1⟩
  go_wp2_with fail
  go_loop [5] (fun s => ∃ F : List UInt8, s = .string ⟨F.toArray⟩ ∧ (F = D ∨ F = E)) (fun s => match s with | .string b => 2 - b.size | _ => 0)
  case atStart => exact ⟨D, rfl, .inl rfl⟩
  case round =>
    obtain ⟨F, rfl, rfl | rfl⟩ := hrel
    · go_wp2_with fail
      exact ⟨⟨E, rfl, .inr rfl⟩, by simp [ByteArray.size, h1, h2]⟩
    · go_wp2_with fail
      go_ret
      exact ⟨rfl, hb1⟩
theorem pad2_any (n : Nat) (w : World) (hn : n < 100) :
    Calls Tryd.prog 16 #[.int .i64 n, .int .i64 2] w fun e w' => e = .returned (.string ⟨(Civ.d2 n).toArray⟩) ∧ Below w.heap.size w w' := by
  by_cases h : n < 10
  · exact pad_one n w h
  · have := pad_long n 2 w (by omega) (by rw [Civ.dec_d2 (by omega) hn]; simp [Civ.d2])
    rw [Civ.dec_d2 (by omega) hn] at this
    exact this
theorem pad4_any (n : Nat) (w : World) (h0 : 1000 ≤ n) (hn : n < 10000) :
    Calls Tryd.prog 16 #[.int .i64 n, .int .i64 4] w fun e w' => e = .returned (.string ⟨(Civ.d4 n).toArray⟩) ∧ Below w.heap.size w w' := by
  have := pad_long n 4 w hn (by rw [Civ.dec_d4 h0 hn]; simp [Civ.d4, Civ.d2])
  rw [Civ.dec_d4 h0 hn] at this
  exact this
end Go.Proofs.YtfjbonhlokbhpaaDoor
/- Splitting plain texts at a byte; the texts that CalendarDaily and CalendarSteps make. -/
namespace Go.Proofs.YtfjbonhlokbhpaaDoor
def oneP (a : Nat) : List Part := [(false, (a : Int), (a : Int), 0)]
def eqQ : List Part → List Part → Bool
  | [], [] => true
  | (a, b, c, d) :: l, (a', b', c', d') :: l' => decide (a = a') && (decide (b = b') && (decide (c = c') && (decide (d = d') && eqQ l l')))
  | _, _ => false
theorem eqQ_eq : ∀ {x y : List Part}, eqQ x y = true → x = y
  | [], [], _ => rfl
  | (a, b, c, d) :: l, (a', b', c', d') :: l', h => by
    simp only [eqQ, Bool.and_eq_true, decide_eq_true_eq] at h
    obtain ⟨rfl, rfl, rfl, rfl, h⟩ := h
    rw [eqQ_eq h]
  | [], _ :: _, h => by simp [eqQ] at h
  | _ :: _, [], h => by simp [eqQ] at h
def eqP : Option (List Part) → Option (List Part) → Bool
  | some x, some y => eqQ x y
  | _, _ => false
theorem eqP_eq : ∀ {x y : Option (List Part)}, eqP x y = true → x = y
  | some x, some y, h => by rw [eqQ_eq h]
  | none, none, h => by simp [eqP] at h
  | none, some _, h => by simp [eqP] at h
  | some _, none, h => by simp [eqP] at h
theorem hour_tab : ((List.range 24).all fun a => eqP (pNs ⟨(Civ.d2 a).toArray⟩ 0 23) (some (oneP a))) = true := by kernel_rfl
theorem min_tab : ((List.range 60).all fun a => eqP (pNs ⟨(Civ.d2 a).toArray⟩ 0 59) (some (oneP a))) = true := by kernel_rfl
theorem hour_all (a : Nat) (h : a < 24) : pNs ⟨(Civ.d2 a).toArray⟩ 0 23 = some (oneP a) := eqP_eq (List.all_eq_true.1 hour_tab a (List.mem_range.2 h))
theorem min_all (a : Nat) (h : a < 60) : pNs ⟨(Civ.d2 a).toArray⟩ 0 59 = some (oneP a) := eqP_eq (List.all_eq_true.1 min_tab a (List.mem_range.2 h))
open Go.RowKit
theorem ib_none {c : UInt8} : ∀ {l : List UInt8}, c ∉ l → Lib.indexByte l c = -1
  | [], _ => rfl
  | b :: l, h => by
    have h1 : (b == c) = false := by simp; exact fun e => h (by simp [e])
    have h2 := ib_none (c := c) (l := l) (fun hm => h (List.mem_cons_of_mem _ hm))
    simp [Lib.indexByte, h1, h2]
theorem ib_some {c : UInt8} {r : List UInt8} : ∀ {x : List UInt8}, c ∉ x → Lib.indexByte (x ++ c :: r) c = x.length
  | [], _ => by simp [Lib.indexByte]
  | b :: x, h => by
    have h1 : (b == c) = false := by simp; exact fun e => h (by simp [e])
    have h2 := ib_some (c := c) (r := r) (x := x) (fun hm => h (List.mem_cons_of_mem _ hm))
    have h3 : ((x.length : Int) == -1) = false := by simp
    simp only [List.cons_append, Lib.indexByte, h1, Bool.false_eq_true, if_false, h2, h3, List.length_cons]
    omega
theorem indexB_one (s : ByteArray) (c : UInt8) : Lib.indexB s (str1 c) = Lib.indexByte s.data.toList c := Lib.index_one _ _
theorem splitB_no {s : ByteArray} {c : UInt8} (k : Nat) (h : c ∉ s.data.toList) : Lib.splitB (str1 c) 0 k s = [s] := Lib.splitB_miss _ _ _ _ (by rw [indexB_one]; exact ib_none h)
theorem splitT_no {s : ByteArray} {c : UInt8} (k : Nat) (h : c ∉ s.data.toList) : splitT s (str1 c) k = [s] := splitB_no _ h
theorem mkl (l : List UInt8) : (⟨l.toArray⟩ : ByteArray).data.toList = l := by simp
theorem splitB_at {c : UInt8} {x r : List UInt8} (k : Nat) (h : c ∉ x) : Lib.splitB (str1 c) 0 (k + 1) ⟨(x ++ c :: r).toArray⟩ = ⟨x.toArray⟩ :: Lib.splitB (str1 c) 0 k ⟨r.toArray⟩ := by
  rw [Lib.splitB_hit (str1 c) 0 k _ x.length (by rw [indexB_one, mkl]; exact ib_some h)]
  congr 1
  · rw [← Lib.mk_data (ByteArray.extract _ _ _), Lib.extract_data]
    simp
  · congr 1
    rw [← Lib.mk_data (ByteArray.extract _ _ _), Lib.extract_data]
    have hz : (str1 c).size = 1 := rfl
    have hz2 : (⟨(x ++ c :: r).toArray⟩ : ByteArray).size = x.length + (r.length + 1) := by
      show (x ++ c :: r).toArray.size = _
      simp
    rw [hz, hz2, mkl, List.drop_append, List.drop_of_length_le (show x.length ≤ x.length + 0 + 1 by omega)]
    rw [show x.length + 0 + 1 - x.length = 1 by omega, show x.length + (r.length + 1) - (x.length + 0 + 1) = r.length by omega]
    simp
theorem contains_no {c : UInt8} {l : List UInt8} (h : c ∉ l) : Lib.contains l [c] = false := by
  unfold Lib.contains; rw [Lib.index_one, ib_none h]; rfl
theorem contains_yes {c : UInt8} {x r : List UInt8} (h : c ∉ x) : Lib.contains (x ++ c :: r) [c] = true := by
  unfold Lib.contains; rw [Lib.index_one, ib_some h]; simp
theorem d2_no (n : Nat) (c : UInt8) (hn : n < 100) (hc : c < 48 ∨ 57 < c) : c ∉ Civ.d2 n := by
  have h1 : ∀ k, k < 10 → c ≠ UInt8.ofNat (48 + k) := fun k hk e => by
    have : c.toNat = 48 + k := by rw [e]; simp; omega
    rcases hc with h | h
    · have := UInt8.lt_iff_toNat_lt.1 h; simp at this; omega
    · have := UInt8.lt_iff_toNat_lt.1 h; simp at this; omega
  unfold Civ.d2
  simp only [List.mem_cons, List.not_mem_nil, or_false, not_or]
  exact ⟨h1 _ (by omega), h1 _ (by omega)⟩
/-- "hh:mm:ss" -/
def sT (a b c : Nat) : List UInt8 := Civ.d2 a ++ 58 :: (Civ.d2 b ++ 58 :: Civ.d2 c)
theorem sT_no (a b c : Nat) (ha : a < 100) (hb : b < 100) (hc : c < 100) (z : UInt8) (hz : z < 48 ∨ 57 < z) (h58 : z ≠ 58) : z ∉ sT a b c := by
  unfold sT
  simp only [List.mem_append, List.mem_cons, not_or]
  exact ⟨d2_no a z ha hz, h58, d2_no b z hb hz, h58, d2_no c z hc hz⟩
def xT (a b c : Nat) : Cal.C7 := ⟨[], [(true, 0, 0, 0)], [(true, 0, 0, 0)], [(true, 0, 0, 0)], oneP a, oneP b, oneP c⟩
theorem ix_none {a : UInt8} {tl : List UInt8} : ∀ {l : List UInt8}, a ∉ l → Lib.index l (a :: tl) = -1
  | [], _ => rfl
  | b :: l, h => by
    have h1 : (a == b) = false := by simp; exact fun e => h (by simp [e])
    have h2 := ix_none (a := a) (tl := tl) (l := l) (fun hm => h (List.mem_cons_of_mem _ hm))
    simp [Lib.index, List.isPrefixOf, h1, h2]
theorem wds_len (s : ByteArray) (h : s.size ≠ 3) (hc : (46 : UInt8) ∉ s.data.toList) : (pWds s).2 = false := by
  have hcut : Lib.cut s.data.toList [46, 46] = (s.data.toList, [], false) := by
    unfold Lib.cut
    rw [ix_none hc]; rfl
  have hA : cutA s [46, 46] = s := by unfold cutA; rw [hcut]
  have hF : cutF s [46, 46] = false := by unfold cutF; rw [hcut]
  unfold pWds
  rw [hF, hA]
  simp [pWd, h]
theorem spell_id {s : ByteArray} {c : UInt8} {r : List UInt8} (hs : s.data.toList = c :: r) (hc : c < 97) : spell s = s := by
  have h : ∀ (d : UInt8) (l : List UInt8), 97 ≤ d → (s.toList == d :: l) = false := fun d l hd => by
    rw [Lib.toList_data, hs]
    have : (c == d) = false := by
      simp
      intro e
      subst e
      exact absurd hc (UInt8.not_lt.2 hd)
    simp [this]
  unfold spell
  simp only [h _ _ (by decide : (97 : UInt8) ≤ 109), h _ _ (by decide : (97 : UInt8) ≤ 104), h _ _ (by decide : (97 : UInt8) ≤ 100), h _ _ (by decide : (97 : UInt8) ≤ 119), h _ _ (by decide : (97 : UInt8) ≤ 121), Bool.false_eq_true, if_false]
theorem pD_D0 : pD D0 = some ([(true, 0, 0, 0)], [(true, 0, 0, 0)], [(true, 0, 0, 0)]) := by kernel_rfl
theorem pF_sT (a b c : Nat) (ha : a < 24) (hb : b < 60) (hc : c < 60) : pF ⟨(sT a b c).toArray⟩ = some (xT a b c) := by
  have hl : (sT a b c).length = 8 := by simp [sT, Civ.d2]
  have h1 : splitT ⟨(sT a b c).toArray⟩ (str1 32) 3 = [⟨(sT a b c).toArray⟩] := splitT_no _ (by rw [mkl]; exact sT_no a b c (by omega) (by omega) (by omega) _ (by decide) (by decide))
  have h2 : splitT ⟨(sT a b c).toArray⟩ (str1 44) 12 = [⟨(sT a b c).toArray⟩] := splitT_no _ (by rw [mkl]; exact sT_no a b c (by omega) (by omega) (by omega) _ (by decide) (by decide))
  have h3 : (pWds ⟨(sT a b c).toArray⟩).2 = false := wds_len _ (by show (sT a b c).toArray.size ≠ 3; simp [hl]) (by rw [mkl]; exact sT_no a b c (by omega) (by omega) (by omega) _ (by decide) (by decide))
  have h4 : takeW [⟨(sT a b c).toArray⟩] = ([], [⟨(sT a b c).toArray⟩]) := by
    simp only [takeW, h2, pL, h3, Bool.false_eq_true, if_false]
  have h5 : takeC 45 D0 [⟨(sT a b c).toArray⟩] = (D0, [⟨(sT a b c).toArray⟩]) := by
    simp only [takeC, contains_no (sT_no a b c (by omega) (by omega) (by omega) 45 (by decide) (by decide)), Bool.false_eq_true, if_false]
  have h6 : takeC 58 C0 [⟨(sT a b c).toArray⟩] = (⟨(sT a b c).toArray⟩, []) := by
    have : Lib.contains (sT a b c) [58] = true := contains_yes (d2_no a 58 (by omega) (by decide))
    simp only [takeC, this, if_true]
  have h7 : splitT ⟨(sT a b c).toArray⟩ (str1 58) 3 = [⟨(Civ.d2 a).toArray⟩, ⟨(Civ.d2 b).toArray⟩, ⟨(Civ.d2 c).toArray⟩] := by
    unfold splitT
    have : min (3 + 1) ((⟨(sT a b c).toArray⟩ : ByteArray).size + 1) - 1 = 1 + 1 + 1 := by
      have : (⟨(sT a b c).toArray⟩ : ByteArray).size = 8 := by show (sT a b c).toArray.size = 8; simp [hl]
      omega
    rw [this]
    unfold sT
    rw [splitB_at _ (d2_no a 58 (by omega) (by decide)), splitB_at _ (d2_no b 58 (by omega) (by decide)), splitB_no _ (by rw [mkl]; exact d2_no c 58 (by omega) (by decide))]
  have h8 : pC ⟨(sT a b c).toArray⟩ = some (oneP a, oneP b, oneP c) := by
    unfold pC
    rw [h7]
    show ((pNs _ 0 23).bind fun r => (pNs _ 0 59).bind fun q => (pNs _ 0 59).map fun p => (r, q, p)) = _
    rw [hour_all a ha, min_all b hb, min_all c hc]; rfl
  unfold pF
  rw [h1, h4]
  simp only [h5, h6, pD_D0, h8]
  rfl
end Go.Proofs.YtfjbonhlokbhpaaDoor
