/- The walk of the law LineNumbers. -/
import Derived.Test.YtcihilaofehomaaDoorN1
import Derived.Test.YtcihilaofehomaaDoorR11
import Derived.Test.YtcihilaofehomaaDoorK1
import Derived.Deep.RegionHeld3
namespace Go.Proofs.YtcihilaofehomaaDoor
open Go.RowKit Lin
theorem infoI : (Tryd.prog.info? 3).map (fun i => (i.zero, i.size, i.bytes)) = some (some (.int .i64 0), 1, 8) := by kernel_rfl
def gvU (us : List Nat) (i : Nat) : Nat := us.getD i 0 % 4
/-- Numbers that are asked. -/
def wnt (gv : Nat → Nat) (k : Nat) : List Value := (List.range' 0 k).map fun i => Value.int .i64 ((aw gv i + gN (gv i) : Nat) : Int)
theorem wnt_snoc (gv : Nat → Nat) (k : Nat) : wnt gv (k + 1) = wnt gv k ++ [Value.int .i64 ((aw gv k + gN (gv k) : Nat) : Int)] := by unfold wnt; rw [List.range'_concat]; simp
theorem wnt_at (gv : Nat → Nat) (n k : Nat) (h : k < n) : (wnt gv n)[k]? = some (Value.int .i64 ((aw gv k + gN (gv k) : Nat) : Int)) := by
  unfold wnt
  rw [List.getElem?_map, List.getElem?_range' h]
  simp
theorem own_ints {w : World} {base : Nat} {v : Value} {n : Nat} {xs : List Value} (h : w.ownsRow base 3 1 v n xs) : ∃ (a : Option Addr) (g cap : Nat), v = .slice a n cap ∧ (0 < n → a = some ⟨g, 0, none⟩) ∧ ∀ (j : Nat) (x : Value), j < n → xs[j]? = some x → w.cell? ⟨g, j, none⟩ = some x := by
  rcases h.2 with ⟨hv, h0⟩ | ⟨g, cap, cur, hv, _⟩
  · exact ⟨none, 0, 0, by rw [hv, h0], fun hp => by omega, fun j x hj => by omega⟩
  · refine ⟨some ⟨g, 0, none⟩, g, cap, hv, fun _ => rfl, fun j x hj hx => ?_⟩
    subst hv
    exact (h.cellAt j (by omega)).trans hx
set_option maxRecDepth 100000 in
set_option maxHeartbeats 16000000 in
theorem numbers_walk (a : Option Addr) (b o len cap : Nat) (us : List Nat) (w : World) (hg : Mx w) (ha : 0 < len → a = some ⟨b, o, none⟩) (hul : us.length = len) (hc : ∀ (j u : Nat), us[j]? = some u → w.cell? ⟨b, o + j, none⟩ = some (.int .u8 u)) (hu : ∀ u ∈ us, u ≤ 255) (hl : len ≤ maxLen) :
    Calls Tryd.prog 6 #[.slice a len cap] w fun e w' => e = .returned (.bool true) ∧ Below w.heap.size w w' := by
  have hkn := known_any w hg
  have hknH : Hid (Calls Tryd.prog 9 #[] w fun e w' => e = .returned (.bool true) ∧ Below w.heap.size w w') := hkn
  have hl' : len ≤ 9223372036854775807 := by unfold maxLen at hl; omega
  clear hkn hl
  by_cases h40 : 40 < len
  · have h40I : (40 : Int) < (len : Int) := by omega
    clear hc hu hul
    go_enter Tryd.func6, Tryd.ntmps6
    go_wp2_with fail
    refine hknH.out.mono ?_
    rintro e w1 ⟨rfl, hb1⟩
    go_wp2_with fail
    go_ret
    exact ⟨rfl, hb1⟩
  have h40I : decide ((40 : Int) < (len : Int)) = false := by simp; omega
  have h40' : len ≤ 40 := by omega
  obtain ⟨i0, hinf, hz0, hz1, hz2⟩ := info_parts infoI
  obtain ⟨gv, hgv⟩ : ∃ gv, gvU us = gv := ⟨_, rfl⟩
  have hgvH : Hid (∀ (k u : Nat), us[k]? = some u → gv k = u % 4) := fun k u h => by rw [← hgv]; unfold gvU; rw [List.getD_eq_getElem?_getD, h]; rfl
  have hcH : Hid (∀ (j u : Nat), us[j]? = some u → w.cell? ⟨b, o + j, none⟩ = some (.int .u8 u)) := hc
  have hulH : Hid (us.length = len) := hul
  have huH : Hid (∀ u ∈ us, u ≤ 255) := hu
  have hgH : Hid (Mx w) := hg
  clear hc hul hu hgv hg h40
  go_enter Tryd.func6, Tryd.ntmps6
  go_wp2_with fail
  refine hknH.out.mono ?_
  rintro e w1 ⟨rfl, hb1⟩
  clear hknH
  go_wp2_with fail
  go_loopw [3, 4, 5, 6] (fun v3 v4 v5 v6 wr => ∃ (k : Nat) (S : ByteArray), k ≤ len ∧ v6 = .int .i64 k ∧ v3 = .string S ∧ v4 = .int .i64 (aw gv k : Nat) ∧ Hid (S.data.toList = [91, 65, 93, 10] ++ txt gv 0 k) ∧ Hid (wr.ownsRow w1.heap.size 3 1 v5 k (wnt gv k)) ∧ Below w1.heap.size w1 wr) (fun _ _ _ v6 _ => len - (intOf v6).toNat)
  case atStart => exact ⟨0, ⟨#[91, 65, 93, 10]⟩, by omega, rfl, rfl, rfl, rfl, World.ownsRow_nil _ _ _ _, Below.refl _ _⟩
  case round =>
    obtain ⟨k, S, hk, rfl, rfl, rfl, hS, hown, hb⟩ := hrel
    have hwz := hb.size
    by_cases hlt : k < len
    · obtain ⟨u, hu⟩ : ∃ u, us[k]? = some u := ⟨_, List.getElem?_eq_getElem (by rw [hulH.out]; exact hlt)⟩
      have hgk := hgvH.out k u hu
      have c1 := (hb1.cell (p := ⟨b, o + k, none⟩) (cell_lt (hcH.out k u hu))).trans (hcH.out k u hu)
      have cu := (hb.cell (p := ⟨b, o + k, none⟩) (cell_lt c1)).trans c1
      have hu255 := huH.out u (List.mem_of_getElem? hu)
      obtain rfl := ha (by omega)
      clear hu
      have hSz : S.size ≤ 800 := by
        rw [← size_list, hS.out, List.length_append]
        have := txt_len gv k
        simp only [List.length_cons, List.length_nil]; omega
      have hnx : Hid (txt gv 0 (k + 1) = txt gv 0 k ++ blk (u % 4) (dg k)) := by show _ = _; rw [txt_snoc, hgk]
      have hwn : Hid (wnt gv (k + 1) = wnt gv k ++ [Value.int .i64 ((aw gv k + gN (u % 4) : Nat) : Int)]) := by show _ = _; rw [wnt_snoc, hgk]
      have haw : Hid (aw gv (k + 1) = aw gv k + gN (u % 4) + 1 + gC (u % 4)) := by show _ = _; simp only [aw]; rw [hgk]
      have hA := aw_le gv k
      clear hgk
      revert hwn haw hA
      generalize aw gv k = A
      intro hwn haw hA
      obtain ⟨D, hDl, hDz, hDe⟩ := letters (dg k)
      have hDs : D.size ≤ 2 := by rw [hDz]; exact dg_len k
      have hdg := fun w => digits_any k w (by omega)
      rw [hDe] at hdg
      rw [← hDl] at hnx
      have hdgH : Hid (∀ w, Calls Tryd.prog 21 #[.int .i64 k] w fun e w' => e = .returned (.string D) ∧ Below w.heap.size w w') := hdg
      clear hdg hDe hDz hDl
      have hkI : (k : Int) < (len : Int) := by omega
      have hr4 : u % 4 = 0 ∨ u % 4 = 1 ∨ u % 4 = 2 ∨ u % 4 = 3 := by omega
      rcases hr4 with hr | hr | hr | hr
      · have hrI : (u : Int) % 4 = 0 := by omega
        rw [hr] at hnx hwn haw
        have hAW : Hid (aw gv (k + 1) = A + 1) := by show _ = _; rw [haw.out]; simp [gN, gC]
        have hWN : Hid (wnt gv (k + 1) = wnt gv k ++ [Value.int .i64 (A : Int)]) := by show _ = _; rw [hwn.out]; simp [gN]
        have hNX : Hid ((((((S) ++ (⟨#[107]⟩ : ByteArray)) ++ D) ++ (⟨#[61, 97]⟩ : ByteArray)) ++ (⟨#[10]⟩ : ByteArray)).data.toList = [91, 65, 93, 10] ++ txt gv 0 (k + 1)) := by
          show _ = _
          rw [hnx.out, ← List.append_assoc, ← hS.out]
          simp [blk, gpre, gpost]
        have hr1 := hown.out.alloc (.cells #[.int .i64 (A : Int)] 3)
        clear hr hnx hwn haw hS
        go_wp2_with (first | (go_at_call 21; refine (hdgH.out _).mono ?_) | (at_builtin; refine wpList_append_own_at _ rfl _ _ 48 rfl w1.heap.size 3 i0 (.int .i64 0) 1 8 Tryd.underlying48 hinf hz0 hz1 hz2 rfl (by decide) _ _ _ rfl hr1 ⟨_, 0, none⟩ 1 1 [.int .i64 (A : Int)] rfl rfl (row_news1 _ _ _) (fun x hx => by simp at hx; subst hx; rfl) (by unfold maxLen; omega) (by omega) (by simp; omega) ?_; intro v' w5 hown' hgrow _ _))
        have hb5 : Below w1.heap.size w1 w5 := (hb.alloc hwz _).grown hgrow (by simp; omega) (fun k e => (hr1.lt k e).1)
        rintro e w6 rfl hb6
        have hb7 : Below w1.heap.size w1 w6 := hb5.trans (hb6.mono hb5.size)
        have cu6 := (hb7.cell (p := ⟨b, o + k, none⟩) (cell_lt c1)).trans c1
        have ho6 := own_below hown' hb6
        go_wp2_with fail
        exact ⟨⟨k + 1, _, by omega, by go_num, rfl, by rw [hAW.out]; go_num, hNX, by rw [hWN.out]; exact ho6, hb7⟩, by simp [intOf]; omega⟩
      · have hrI : (u : Int) % 4 = 1 := by omega
        rw [hr] at hnx hwn haw
        have hAW : Hid (aw gv (k + 1) = A + 2) := by show _ = _; rw [haw.out]; simp [gN, gC]
        have hWN : Hid (wnt gv (k + 1) = wnt gv k ++ [Value.int .i64 ((A : Int) + 1)]) := by show _ = _; rw [hwn.out]; simp [gN]
        have hNX : Hid ((((((S ++ (⟨#[35, 32, 110, 111, 116, 101, 10]⟩ : ByteArray)) ++ (⟨#[107]⟩ : ByteArray)) ++ D) ++ (⟨#[61, 97]⟩ : ByteArray)) ++ (⟨#[10]⟩ : ByteArray)).data.toList = [91, 65, 93, 10] ++ txt gv 0 (k + 1)) := by
          show _ = _
          rw [hnx.out, ← List.append_assoc, ← hS.out]
          simp [blk, gpre, gpost]
        have hr1 := hown.out.alloc (.cells #[.int .i64 ((A : Int) + 1)] 3)
        clear hr hnx hwn haw hS
        go_wp2_with (first | (go_at_call 21; refine (hdgH.out _).mono ?_) | (at_builtin; refine wpList_append_own_at _ rfl _ _ 48 rfl w1.heap.size 3 i0 (.int .i64 0) 1 8 Tryd.underlying48 hinf hz0 hz1 hz2 rfl (by decide) _ _ _ rfl hr1 ⟨_, 0, none⟩ 1 1 [.int .i64 ((A : Int) + 1)] rfl rfl (row_news1 _ _ _) (fun x hx => by simp at hx; subst hx; rfl) (by unfold maxLen; omega) (by omega) (by simp; omega) ?_; intro v' w5 hown' hgrow _ _))
        have hb5 : Below w1.heap.size w1 w5 := (hb.alloc hwz _).grown hgrow (by simp; omega) (fun k e => (hr1.lt k e).1)
        rintro e w6 rfl hb6
        have hb7 : Below w1.heap.size w1 w6 := hb5.trans (hb6.mono hb5.size)
        have cu6 := (hb7.cell (p := ⟨b, o + k, none⟩) (cell_lt c1)).trans c1
        have ho6 := own_below hown' hb6
        go_wp2_with fail
        exact ⟨⟨k + 1, _, by omega, by go_num, rfl, by rw [hAW.out]; go_num, hNX, by rw [hWN.out]; exact ho6, hb7⟩, by simp [intOf]; omega⟩
      · have hrI : (u : Int) % 4 = 2 := by omega
        rw [hr] at hnx hwn haw
        have hAW : Hid (aw gv (k + 1) = A + 3) := by show _ = _; rw [haw.out]; simp [gN, gC]
        have hWN : Hid (wnt gv (k + 1) = wnt gv k ++ [Value.int .i64 ((A : Int) + 2)]) := by show _ = _; rw [hwn.out]; simp [gN]
        have hNX : Hid ((((((S ++ (⟨#[32, 9, 10, 59, 10]⟩ : ByteArray)) ++ (⟨#[107]⟩ : ByteArray)) ++ D) ++ (⟨#[61, 97]⟩ : ByteArray)) ++ (⟨#[10]⟩ : ByteArray)).data.toList = [91, 65, 93, 10] ++ txt gv 0 (k + 1)) := by
          show _ = _
          rw [hnx.out, ← List.append_assoc, ← hS.out]
          simp [blk, gpre, gpost]
        have hr1 := hown.out.alloc (.cells #[.int .i64 ((A : Int) + 2)] 3)
        clear hr hnx hwn haw hS
        go_wp2_with (first | (go_at_call 21; refine (hdgH.out _).mono ?_) | (at_builtin; refine wpList_append_own_at _ rfl _ _ 48 rfl w1.heap.size 3 i0 (.int .i64 0) 1 8 Tryd.underlying48 hinf hz0 hz1 hz2 rfl (by decide) _ _ _ rfl hr1 ⟨_, 0, none⟩ 1 1 [.int .i64 ((A : Int) + 2)] rfl rfl (row_news1 _ _ _) (fun x hx => by simp at hx; subst hx; rfl) (by unfold maxLen; omega) (by omega) (by simp; omega) ?_; intro v' w5 hown' hgrow _ _))
        have hb5 : Below w1.heap.size w1 w5 := (hb.alloc hwz _).grown hgrow (by simp; omega) (fun k e => (hr1.lt k e).1)
        rintro e w6 rfl hb6
        have hb7 : Below w1.heap.size w1 w6 := hb5.trans (hb6.mono hb5.size)
        have cu6 := (hb7.cell (p := ⟨b, o + k, none⟩) (cell_lt c1)).trans c1
        have ho6 := own_below hown' hb6
        go_wp2_with fail
        exact ⟨⟨k + 1, _, by omega, by go_num, rfl, by rw [hAW.out]; go_num, hNX, by rw [hWN.out]; exact ho6, hb7⟩, by simp [intOf]; omega⟩
      · have hrI : (u : Int) % 4 = 3 := by omega
        rw [hr] at hnx hwn haw
        have hAW : Hid (aw gv (k + 1) = A + 2) := by show _ = _; rw [haw.out]; simp [gN, gC]
        have hWN : Hid (wnt gv (k + 1) = wnt gv k ++ [Value.int .i64 (A : Int)]) := by show _ = _; rw [hwn.out]; simp [gN]
        have hNX : Hid ((((((S) ++ (⟨#[107]⟩ : ByteArray)) ++ D) ++ (⟨#[61, 97]⟩ : ByteArray) ++ (⟨#[32, 92, 10, 32, 98]⟩ : ByteArray)) ++ (⟨#[10]⟩ : ByteArray)).data.toList = [91, 65, 93, 10] ++ txt gv 0 (k + 1)) := by
          show _ = _
          rw [hnx.out, ← List.append_assoc, ← hS.out]
          simp [blk, gpre, gpost]
        have hr1 := hown.out.alloc (.cells #[.int .i64 (A : Int)] 3)
        clear hr hnx hwn haw hS
        go_wp2_with (first | (go_at_call 21; refine (hdgH.out _).mono ?_) | (at_builtin; refine wpList_append_own_at _ rfl _ _ 48 rfl w1.heap.size 3 i0 (.int .i64 0) 1 8 Tryd.underlying48 hinf hz0 hz1 hz2 rfl (by decide) _ _ _ rfl hr1 ⟨_, 0, none⟩ 1 1 [.int .i64 (A : Int)] rfl rfl (row_news1 _ _ _) (fun x hx => by simp at hx; subst hx; rfl) (by unfold maxLen; omega) (by omega) (by simp; omega) ?_; intro v' w5 hown' hgrow _ _))
        have hb5 : Below w1.heap.size w1 w5 := (hb.alloc hwz _).grown hgrow (by simp; omega) (fun k e => (hr1.lt k e).1)
        rintro e w6 rfl hb6
        have hb7 : Below w1.heap.size w1 w6 := hb5.trans (hb6.mono hb5.size)
        have cu6 := (hb7.cell (p := ⟨b, o + k, none⟩) (cell_lt c1)).trans c1
        have ho6 := own_below hown' hb6
        go_wp2_with fail
        exact ⟨⟨k + 1, _, by omega, by go_num, rfl, by rw [hAW.out]; go_num, hNX, by rw [hWN.out]; exact ho6, hb7⟩, by simp [intOf]; omega⟩
    · obtain rfl : k = len := by omega
      have hkI : ¬ ((k : Int) < (k : Int)) := by omega
      obtain ⟨a5, g5, cap5, rfl, ha5, hc5⟩ := own_ints hown.out
      have hli := lines_any S wr ((hgH.out.below hb1).below hb)
      rw [hS.out, lns_numbers gv k h40'] at hli
      obtain ⟨l, hl⟩ : ∃ l, ((1, [65], [], 1) :: (List.range' 0 k).map (ent gv) : List Ln) = l := ⟨_, rfl⟩
      have hll : l.length = k + 1 := by rw [← hl]; simp
      have hlk : Hid (∀ j, j < k → l[j + 1]? = some (ent gv j)) := fun j hj => by
        rw [← hl, List.getElem?_cons_succ, List.getElem?_map, List.getElem?_range' hj]; simp
      rw [hl] at hli
      have hliH : Hid (Calls Tryd.prog 10 #[.string S] wr (LinesP (.ok l) wr)) := hli
      have hc5H : Hid (∀ (j : Nat) (x : Value), j < k → (wnt gv k)[j]? = some x → wr.cell? ⟨g5, j, none⟩ = some x) := hc5
      clear hli hl hc5 hS hown
      go_wp2_with (go_at_call 10; refine hliH.out.mono ?_)
      intro e w3 h3
      obtain ⟨a2, g2, cap2, rfl, ha2, hat2, _, _, hb3⟩ := lines_out h3
      have hat2H : Hid (LnAt w3 g2 l) := hat2
      rw [show (lst (.ok l)).length = k + 1 from hll] at ha2 ⊢
      rw [show cdN (.ok l) = 0 from rfl, show cdK (.ok l) = 0 from rfl]
      obtain rfl := ha2 (by omega)
      have hb13 : Below w1.heap.size w1 w3 := hb.trans (hb3.mono hb.size)
      clear h3 hat2 hll hliH
      have hkk : (((k + 1 : Nat) : Int) != (k : Int) + 1) = false := by simp
      go_wp2_with fail
      go_loopw [10] (fun i wr2 => ∃ m : Nat, m ≤ k ∧ i = .int .i64 m ∧ Below w3.heap.size w3 wr2) (fun i _ => k - (intOf i).toNat)
      case atStart => exact ⟨0, by omega, rfl, Below.refl _ _⟩
      case round =>
        obtain ⟨m, hm, rfl, hb4⟩ := hrel
        have hbw := hb13.trans (hb4.mono hb13.size)
        by_cases hlt : m < k
        · obtain ⟨u, hu⟩ : ∃ u, us[m]? = some u := ⟨_, List.getElem?_eq_getElem (by rw [hulH.out]; exact hlt)⟩
          have hgk := hgvH.out m u hu
          have c1 := (hb1.cell (p := ⟨b, o + m, none⟩) (cell_lt (hcH.out m u hu))).trans (hcH.out m u hu)
          have cu := (hbw.cell (p := ⟨b, o + m, none⟩) (cell_lt c1)).trans c1
          have hu255 := huH.out u (List.mem_of_getElem? hu)
          obtain rfl := ha (by omega)
          obtain rfl := ha5 (by omega)
          have cw3 := (hb3.cell (p := ⟨g5, m, none⟩) (cell_lt (hc5H.out m _ hlt (wnt_at gv k m hlt)))).trans (hc5H.out m _ hlt (wnt_at gv k m hlt))
          obtain ⟨p0, p1, p2, p3⟩ := hat2H.out (m + 1) _ (hlk.out m hlt)
          clear hu p0 c1
          unfold ent at p1 p2 p3
          obtain ⟨q, hq⟩ : ∃ q, m + 1 = q := ⟨_, rfl⟩
          rw [hq] at p1 p2 p3
          have hqH : Hid (m + 1 = q) := hq
          have hq0 : (0 : Int) ≤ (q : Int) := by omega
          have hq1 : (q : Int) < (k : Int) + 1 := by omega
          have hq2 : (q : Int) ≤ (k : Int) := by omega
          have hqw : IntKind.i64.wrap ((m : Int) + 1) = (q : Int) := by rw [wrap_small _ (by omega) (by omega)]; omega
          have hqk : q ≤ k := by omega
          clear hq
          revert p3 cw3
          generalize aw gv m + gN (gv m) = NN
          intro cw3 p3
          obtain ⟨KB, hKl, _, hKe⟩ := letters (107 :: dg m)
          obtain ⟨D, hDl, hDz, hDe⟩ := letters (dg m)
          obtain ⟨V, hVl, _, hVe⟩ := letters (gval (gv m))
          simp only [hKe, hVe] at p1 p2 p3
          have hDs : D.size ≤ 2 := by rw [hDz]; exact dg_len m
          have hadd : ∀ W, (Op.stringOp .add ⟨#[107]⟩ D).run Tryd.prog W = .ok (.string KB) W := fun W => by
            have h := run_string_add_lists (P := Tryd.prog) W [107] D.data.toList (by simp) (by rw [size_list]; omega)
            rw [Lib.mk_data] at h
            have e : (⟨(107 :: D.data.toList).toArray⟩ : ByteArray) = KB := by rw [hDl]; exact hKe
            rw [← e]; exact h
          have hdg : Hid (∀ W, Below w3.heap.size w3 W → Calls Tryd.prog 21 #[.int .i64 m] W fun e w' => e = .returned (.string D) ∧ w'.cell? ⟨g2, q * 4 + 1, none⟩ = some (.string KB) ∧ w'.cell? ⟨g2, q * 4 + 2, none⟩ = some (.string V) ∧ w'.cell? ⟨g2, q * 4 + 3, none⟩ = some (.int .i64 NN) ∧ w'.cell? ⟨g5, m, none⟩ = some (.int .i64 NN) ∧ Below w3.heap.size w3 w') := by
            intro W hW
            have := digits_any m W (by omega)
            rw [hDe] at this
            refine this.mono ?_
            rintro e w' ⟨rfl, hb'⟩
            have hb9 := hW.trans (hb'.mono hW.size)
            exact ⟨rfl, (hb9.cell (p := ⟨g2, q * 4 + 1, none⟩) (cell_lt p1)).trans p1, (hb9.cell (p := ⟨g2, q * 4 + 2, none⟩) (cell_lt p2)).trans p2, (hb9.cell (p := ⟨g2, q * 4 + 3, none⟩) (cell_lt p3)).trans p3, (hb9.cell (p := ⟨g5, m, none⟩) (cell_lt cw3)).trans cw3, hb9⟩
          have q1 := (hb4.cell (p := ⟨g2, q * 4 + 1, none⟩) (cell_lt p1)).trans p1
          have q2 := (hb4.cell (p := ⟨g2, q * 4 + 2, none⟩) (cell_lt p2)).trans p2
          have q3 := (hb4.cell (p := ⟨g2, q * 4 + 3, none⟩) (cell_lt p3)).trans p3
          have q5 := (hb4.cell (p := ⟨g5, m, none⟩) (cell_lt cw3)).trans cw3
          have hmI : (m : Int) < (k : Int) := by omega
          by_cases hr : u % 4 = 3
          · have hrI : (u : Int) % 4 = 3 := by omega
            have hV : V = ⟨#[97, 32, 32, 32, 98]⟩ := by rw [← hVe, hgk, hr]; rfl
            subst hV
            clear hgk hr hKl hDl hDz hDe hVl hVe hKe p1 p2 p3 cw3
            go_wp2_with fail
            go_region_held3 (fun w' => w'.cell? ⟨g2, q * 4 + 1, none⟩ = some (.string KB) ∧ w'.cell? ⟨g2, q * 4 + 2, none⟩ = some (.string ⟨#[97, 32, 32, 32, 98]⟩) ∧ w'.cell? ⟨g2, q * 4 + 3, none⟩ = some (.int .i64 NN) ∧ w'.cell? ⟨g5, m, none⟩ = some (.int .i64 NN)) (go_keep) (first | (go_at_call 21; refine (hdg.out _ ?_).mono ?_; exact hb4.drew; rintro e w' ⟨rfl, z1, z2, z3, z4, hb9⟩))
            all_goals
              go_wp2_with fail
              exact ⟨⟨q, hqk, rfl, hb9⟩, by have := hqH.out; simp [intOf]; omega⟩
          · have hrI : ((u : Int) % 4 == 3) = false := by simp; omega
            have hrI2 : ¬ ((u : Int) % 4 = 3) := by omega
            have hV : V = ⟨#[97]⟩ := by rw [← hVe, hgk]; unfold gval; rw [if_neg hr]
            subst hV
            clear hgk hr hKl hDl hDz hDe hVl hVe hKe p1 p2 p3 cw3
            go_wp2_with fail
            go_region_held3 (fun w' => w'.cell? ⟨g2, q * 4 + 1, none⟩ = some (.string KB) ∧ w'.cell? ⟨g2, q * 4 + 2, none⟩ = some (.string ⟨#[97]⟩) ∧ w'.cell? ⟨g2, q * 4 + 3, none⟩ = some (.int .i64 NN) ∧ w'.cell? ⟨g5, m, none⟩ = some (.int .i64 NN)) (go_keep) (first | (go_at_call 21; refine (hdg.out _ ?_).mono ?_; exact hb4.drew; rintro e w' ⟨rfl, z1, z2, z3, z4, hb9⟩))
            all_goals
              go_wp2_with fail
              exact ⟨⟨q, hqk, rfl, hb9⟩, by have := hqH.out; simp [intOf]; omega⟩
        · obtain rfl : m = k := by omega
          have hmI : ¬ ((m : Int) < (m : Int)) := by omega
          go_wp2_with fail
          go_ret
          exact ⟨rfl, hb1.trans (hbw.mono hb1.size)⟩
end Go.Proofs.YtcihilaofehomaaDoor
