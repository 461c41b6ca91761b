/- The contract of package span's Print, of numbers at or above 0. -/
import Derived.Test.YtlnfapkpehhafaaDoorW6
import Derived.Deep.RegionHeld3
import Derived.Deep.AppendLies
import Derived.Deep.DrawnRows
namespace Go.Proofs.YtlnfapkpehhafaaDoor
open Go.RowKit
attribute [local go_sem ↓] Go.wp_at_zero Go.wp_at_succ
def strV (l : List UInt8) : Value := .string ⟨l.toArray⟩
theorem idxWrit0 (w : World) : (Instr.index 50 (.agg #[.string ⟨#[119]⟩, .int .i64 604800, .string ⟨#[100]⟩, .int .i64 86400, .string ⟨#[104]⟩, .int .i64 3600, .string ⟨#[109, 105, 110]⟩, .int .i64 60, .string ⟨#[115]⟩, .int .i64 1]) (.int .i64 0)).run Tryd.prog w = .ok (.agg #[.string ⟨#[119]⟩, .int .i64 604800]) w := by kernel_rfl
theorem idxWrit1 (w : World) : (Instr.index 50 (.agg #[.string ⟨#[119]⟩, .int .i64 604800, .string ⟨#[100]⟩, .int .i64 86400, .string ⟨#[104]⟩, .int .i64 3600, .string ⟨#[109, 105, 110]⟩, .int .i64 60, .string ⟨#[115]⟩, .int .i64 1]) (.int .i64 1)).run Tryd.prog w = .ok (.agg #[.string ⟨#[100]⟩, .int .i64 86400]) w := by kernel_rfl
theorem idxWrit2 (w : World) : (Instr.index 50 (.agg #[.string ⟨#[119]⟩, .int .i64 604800, .string ⟨#[100]⟩, .int .i64 86400, .string ⟨#[104]⟩, .int .i64 3600, .string ⟨#[109, 105, 110]⟩, .int .i64 60, .string ⟨#[115]⟩, .int .i64 1]) (.int .i64 2)).run Tryd.prog w = .ok (.agg #[.string ⟨#[104]⟩, .int .i64 3600]) w := by kernel_rfl
theorem idxWrit3 (w : World) : (Instr.index 50 (.agg #[.string ⟨#[119]⟩, .int .i64 604800, .string ⟨#[100]⟩, .int .i64 86400, .string ⟨#[104]⟩, .int .i64 3600, .string ⟨#[109, 105, 110]⟩, .int .i64 60, .string ⟨#[115]⟩, .int .i64 1]) (.int .i64 3)).run Tryd.prog w = .ok (.agg #[.string ⟨#[109, 105, 110]⟩, .int .i64 60]) w := by kernel_rfl
theorem idxWrit4 (w : World) : (Instr.index 50 (.agg #[.string ⟨#[119]⟩, .int .i64 604800, .string ⟨#[100]⟩, .int .i64 86400, .string ⟨#[104]⟩, .int .i64 3600, .string ⟨#[109, 105, 110]⟩, .int .i64 60, .string ⟨#[115]⟩, .int .i64 1]) (.int .i64 4)).run Tryd.prog w = .ok (.agg #[.string ⟨#[115]⟩, .int .i64 1]) w := by kernel_rfl
theorem info9 : (Tryd.prog.info? 9).map (fun i => (i.zero, i.size, i.bytes)) = some (some (.string ⟨#[]⟩), 1, 16) := by kernel_rfl
theorem grownBy_of_below {w w' : World} (h : Below w.heap.size w w') : w.grownBy w' none := ⟨h.os, h.tape, h.output, h.size, fun k hk _ => h.block k hk⟩
theorem owns_below {w w' : World} {base e size n : Nat} {v : Value} {xs : List Value} (h : w.ownsRow base e size v n xs) (hb : Below w.heap.size w w') : w'.ownsRow base e size v n xs :=
  h.kept (grownBy_of_below hb) (by cases hv : v.ownBlock with
    | none => exact .inl rfl
    | some k => exact .inr (by simp))
def PartsAt (n : Int) (L : List (List UInt8)) (T : List (List UInt8 × Int)) (m : Int) : Prop := (∀ x ∈ L, x.length ≤ 30) ∧ Sp.partsOf Sp.writT n = L ++ Sp.partsOf T m
theorem parts_yes {n m k : Int} {L : List (List UInt8)} {u : List UInt8} {r : List (List UInt8 × Int)} (h : PartsAt n L ((u, k) :: r) m) (hc : 0 < m / k) (hl : (Lib.itoa (m / k)).length ≤ 21) (hu : u.length ≤ 3) : PartsAt n (L ++ [Lib.itoa (m / k) ++ u]) r (m % k) := by
  refine ⟨fun x hx => ?_, ?_⟩
  · rw [List.mem_append, List.mem_singleton] at hx
    rcases hx with hx | rfl
    · exact h.1 x hx
    · rw [List.length_append]; omega
  · rw [h.2, List.append_assoc]
    simp [Sp.partsOf, hc]
theorem parts_no {n m k : Int} {L : List (List UInt8)} {u : List UInt8} {r : List (List UInt8 × Int)} (h : PartsAt n L ((u, k) :: r) m) (hc : ¬ 0 < m / k) : PartsAt n L r (m % k) := by
  refine ⟨h.1, ?_⟩
  rw [h.2]
  simp [Sp.partsOf, hc]
theorem parts_yes1 {n m : Int} {L : List (List UInt8)} {u : List UInt8} {r : List (List UInt8 × Int)} (h : PartsAt n L ((u, 1) :: r) m) (hc : 0 < m) (hl : (Lib.itoa m).length ≤ 21) (hu : u.length ≤ 3) : PartsAt n (L ++ [Lib.itoa m ++ u]) r 0 := by
  have h2 := parts_yes h (by rw [Int.ediv_one]; exact hc) (by rw [Int.ediv_one]; exact hl) hu
  rwa [Int.ediv_one, Int.emod_one] at h2
theorem parts_no1 {n m : Int} {L : List (List UInt8)} {u : List UInt8} {r : List (List UInt8 × Int)} (h : PartsAt n L ((u, 1) :: r) m) (hc : ¬ 0 < m) : PartsAt n L r 0 := by
  have h2 := parts_no h (by rw [Int.ediv_one]; exact hc)
  rwa [Int.emod_one] at h2
theorem lens_le (L : List (List UInt8)) (h : ∀ x ∈ L, x.length ≤ 30) : (Lib.join L [32]).length ≤ 31 * L.length := by
  induction L with
  | nil => simp [Lib.join]
  | cons a t ih =>
    have ha := h a (by simp)
    have ht := ih (fun x hx => h x (by simp [hx]))
    cases t with
    | nil => simp [Lib.join]; omega
    | cons b t =>
      have e : Lib.join (a :: b :: t) [32] = a ++ [32] ++ Lib.join (b :: t) [32] := by simp [Lib.join, List.intercalate, List.intersperse]
      rw [e, List.length_append, List.length_append]
      simp only [List.length_cons, List.length_nil] at ht ⊢
      omega
theorem join_any (L : List (List UInt8)) (g cap base : Nat) (w : World) (hown : w.ownsRow base 9 1 (.slice (some ⟨g, 0, none⟩) L.length cap) L.length (L.map strV)) (hl : ∀ x ∈ L, x.length ≤ 30) (hn : L.length ≤ 5) (hg : g < w.heap.size) (hc : L.length ≤ cap) :
    Calls Tryd.prog 22 #[.slice (some ⟨g, 0, none⟩) L.length cap, .string ⟨#[32]⟩] w fun e w' => e = .returned (.string ⟨(Lib.join L [32]).toArray⟩) ∧ Below w.heap.size w w' := by
  have hlen := lens_le L hl
  have e1 : (L.map fun l => (⟨l.toArray⟩ : ByteArray)).map (·.data.toList) = L := by rw [List.map_map]; exact List.map_id' _
  have hj := Tryd.strings_Join g 0 cap (L.map fun l => (⟨l.toArray⟩ : ByteArray)) ⟨#[32]⟩ w (by
    intro j x hx
    rw [List.getElem?_map] at hx
    have hj : j < L.length := by
      rcases Nat.lt_or_ge j L.length with h | h
      · exact h
      · rw [List.getElem?_eq_none h] at hx; cases hx
    rw [Nat.zero_add, hown.cellAt j (by omega), List.getElem?_map]
    rw [List.getElem?_eq_getElem hj] at hx ⊢
    simp only [Option.map_some, Option.some.injEq] at hx ⊢
    rw [← hx]; rfl) hg (by rw [List.length_map]; omega) (by rw [List.length_map]; omega) (by rw [e1]; show (Lib.join L [32]).length ≤ _; omega)
  rw [List.length_map, e1] at hj
  exact hj
theorem TabsIn.drew {w : World} (h : TabsIn w) : TabsIn w.drew := h.below (Below.refl _ _).drew
set_option maxRecDepth 100000 in
set_option maxHeartbeats 2000000 in
theorem printP_any (n : Int) (w : World) (h0 : 0 ≤ n) (h1 : n ≤ 9223372036854775807) (hT : TabsIn w) :
    Calls Tryd.prog 14 #[.int .i64 n] w fun e w' => e = .returned (.string ⟨(Sp.printP n).toArray⟩) ∧ Below w.heap.size w w' := by
  by_cases ht : n = 9223372036854775807
  · subst ht
    go_enter Tryd.func14, Tryd.ntmps14
    go_wp2_with fail
    go_ret
    exact ⟨rfl, Below.refl _ _⟩
  by_cases hz : n = 0
  · subst hz
    go_enter Tryd.func14, Tryd.ntmps14
    go_wp2_with fail
    go_ret
    exact ⟨rfl, Below.refl _ _⟩
  have hp : Hid (Sp.printP n = Lib.join (Sp.partsOf Sp.writT n) [32]) := by
    show _ = _; unfold Sp.printP Sp.top; rw [if_neg ht, if_neg hz]
  have b1 : (n == 9223372036854775807) = false := by simpa using ht
  have b2 : (n == -9223372036854775808) = false := by simp; omega
  have b3 : (n == 0) = false := by simpa using hz
  clear ht hz
  have c0 := hT.wr 0 _ rfl
  have c1 := hT.wr 1 _ rfl
  have c2 := hT.wr 2 _ rfl
  have c3 := hT.wr 3 _ rfl
  have c4 := hT.wr 4 _ rfl
  have c5 := hT.wr 5 _ rfl
  have c6 := hT.wr 6 _ rfl
  have c7 := hT.wr 7 _ rfl
  have c8 := hT.wr 8 _ rfl
  have c9 := hT.wr 9 _ rfl
  go_enter Tryd.func14, Tryd.ntmps14
  go_wp2_with fail
  clear c0 c1 c2 c3 c4 c5 c6 c7 c8 c9 b1 b2 b3
  go_loopw [0, 3, 24] (fun nn ps ix wr => ∃ (k : Nat) (m : Int) (L : List (List UInt8)), ix = .int .i64 k ∧ k ≤ 5 ∧ nn = .int .i64 m ∧ 0 ≤ m ∧ m ≤ 9223372036854775807 ∧ wr.ownsRow w.heap.size 9 1 ps L.length (L.map strV) ∧ L.length ≤ k ∧ Below w.heap.size w wr ∧ PartsAt n L (Sp.writT.drop k) m) (fun _ _ ix _ => 5 - (intOf ix).toNat)
  case atStart => exact ⟨0, n, [], rfl, by omega, rfl, h0, h1, World.ownsRow_nil _ _ _ _, by simp, Below.refl _ _, by simp, rfl⟩
  case round =>
    obtain ⟨k, m, L, rfl, hk, rfl, hm0, hm1, hown, hLk, hb, hh⟩ := hrel
    have hsz := hb.size
    have hT2 := hT.below hb
    have hk2 : k = 0 ∨ k = 1 ∨ k = 2 ∨ k = 3 ∨ k = 4 ∨ k = 5 := by omega
    clear hk
    rcases hk2 with rfl | rfl | rfl | rfl | rfl | rfl
    · have hi := idxWrit0
      by_cases hc : 0 < m / 604800
      · have hT3 := hT2.below ((Below.refl _ wr).alloc (Nat.le_refl _) (.cells #[.string ⟨#[119]⟩, .int .i64 604800] 49))
        obtain ⟨i0, hi0, hz0, hz1, hz2⟩ := info_parts info9
        have hfar : some wr.heap.size ≠ u3.ownBlock := fun h => by have := (hown.lt _ h.symm).2; omega
        have hown' := hown.alloc (.cells #[.string ⟨#[119]⟩, .int .i64 604800] 49)
        have hil : (Lib.itoa (m / 604800)).length ≤ 21 := Lib.itoa_length_le _ (by omega) (by omega)
        have hadd : ∀ W, (Op.stringOp .add ⟨(Lib.itoa (m / 604800)).toArray⟩ ⟨#[119]⟩).run Tryd.prog W = .ok (.string ⟨(Lib.itoa (m / 604800) ++ [119]).toArray⟩) W := fun W => run_string_add_lists W _ _ (by omega) (by simp)
        go_wp2_with fail
        go_region_held3 (fun w' => w'.cell? ⟨wr.heap.size, 0, none⟩ = some (.string ⟨#[119]⟩) ∧ w'.cell? ⟨wr.heap.size, 1, none⟩ = some (.int .i64 604800))
          (first | go_keep | (go_split_ands; refine ⟨?_, ?_⟩ <;> (rw [hb2.cell (by simp)]; first | assumption | simp)) | (go_split_ands; refine ⟨?_, ?_⟩ <;> (rw [hgrow.cell_far _ (by simp; omega) hfar]; assumption)))
          (first
            | (go_at_call 21; refine (fmt_any _ (by omega) (by omega) _ (by first | exact hT3 | exact hT3.drew | exact hT3.drew.drew)).mono ?_; rintro e w2 ⟨rfl, hb2⟩; have hsz2 := hb2.size; simp at hsz2)
            | (refine step_append_lies _ (by rfl) _ _ _ (by rfl) w.heap.size 9 i0 _ 1 16 Tryd.underlying47 hi0 hz0 hz1 hz2 rfl (by omega) u3 L.length (L.map strV) (by rfl) (by first | exact (owns_below hown' hb2).alloc _ | exact (owns_below hown'.drew hb2).alloc _)
                ⟨w2.heap.size, 0, none⟩ 1 1 [strV (Lib.itoa (m / 604800) ++ [119])] (by rfl) (by rfl) (World.news_of_block (cs := #[strV (Lib.itoa (m / 604800) ++ [119])]) (t := 9) (fr := (0, 0)) (heap_alloc_new w2 _)) (by simp [Value.oneCell', strV])
                (by omega) (by unfold maxLen; omega) (by omega) (by simp; omega) (w2.heap.size + 1) (by simp) ?_; intro g cap w3 hown3 hgrow hat hlt))
        go_split_ands
        clear hadd hi
        have hB1 : Below w.heap.size w (wr.alloc (.cells #[.string ⟨#[119]⟩, .int .i64 604800] 49)).drew := (hb.alloc hsz _).drew
        have hB2 := hB1.trans (hb2.mono (by simp; omega))
        have hB3 := (hB2.alloc (by omega) _).grown hgrow (by simp; omega) (fun k hk => (hown.lt k hk).1)
        go_wp2_with fail
        exact ⟨⟨1, m % 604800, L ++ [Lib.itoa (m / 604800) ++ [119]], rfl, by omega, rfl, by omega, by omega, by simpa using hown3, by rw [List.length_append, List.length_singleton]; omega, hB3, parts_yes (r := Sp.writT.drop 1) hh hc hil (by simp)⟩, by simp [intOf]⟩
      · go_wp2_with fail
        exact ⟨⟨1, m % 604800, L, rfl, by omega, rfl, by omega, by omega, hown.alloc _, by omega, hb.alloc hsz _, parts_no (r := Sp.writT.drop 1) hh hc⟩, by simp [intOf]⟩
    · have hi := idxWrit1
      by_cases hc : 0 < m / 86400
      · have hT3 := hT2.below ((Below.refl _ wr).alloc (Nat.le_refl _) (.cells #[.string ⟨#[100]⟩, .int .i64 86400] 49))
        obtain ⟨i0, hi0, hz0, hz1, hz2⟩ := info_parts info9
        have hfar : some wr.heap.size ≠ u3.ownBlock := fun h => by have := (hown.lt _ h.symm).2; omega
        have hown' := hown.alloc (.cells #[.string ⟨#[100]⟩, .int .i64 86400] 49)
        have hil : (Lib.itoa (m / 86400)).length ≤ 21 := Lib.itoa_length_le _ (by omega) (by omega)
        have hadd : ∀ W, (Op.stringOp .add ⟨(Lib.itoa (m / 86400)).toArray⟩ ⟨#[100]⟩).run Tryd.prog W = .ok (.string ⟨(Lib.itoa (m / 86400) ++ [100]).toArray⟩) W := fun W => run_string_add_lists W _ _ (by omega) (by simp)
        go_wp2_with fail
        go_region_held3 (fun w' => w'.cell? ⟨wr.heap.size, 0, none⟩ = some (.string ⟨#[100]⟩) ∧ w'.cell? ⟨wr.heap.size, 1, none⟩ = some (.int .i64 86400))
          (first | go_keep | (go_split_ands; refine ⟨?_, ?_⟩ <;> (rw [hb2.cell (by simp)]; first | assumption | simp)) | (go_split_ands; refine ⟨?_, ?_⟩ <;> (rw [hgrow.cell_far _ (by simp; omega) hfar]; assumption)))
          (first
            | (go_at_call 21; refine (fmt_any _ (by omega) (by omega) _ (by first | exact hT3 | exact hT3.drew | exact hT3.drew.drew)).mono ?_; rintro e w2 ⟨rfl, hb2⟩; have hsz2 := hb2.size; simp at hsz2)
            | (refine step_append_lies _ (by rfl) _ _ _ (by rfl) w.heap.size 9 i0 _ 1 16 Tryd.underlying47 hi0 hz0 hz1 hz2 rfl (by omega) u3 L.length (L.map strV) (by rfl) (by first | exact (owns_below hown' hb2).alloc _ | exact (owns_below hown'.drew hb2).alloc _)
                ⟨w2.heap.size, 0, none⟩ 1 1 [strV (Lib.itoa (m / 86400) ++ [100])] (by rfl) (by rfl) (World.news_of_block (cs := #[strV (Lib.itoa (m / 86400) ++ [100])]) (t := 9) (fr := (0, 0)) (heap_alloc_new w2 _)) (by simp [Value.oneCell', strV])
                (by omega) (by unfold maxLen; omega) (by omega) (by simp; omega) (w2.heap.size + 1) (by simp) ?_; intro g cap w3 hown3 hgrow hat hlt))
        go_split_ands
        clear hadd hi
        have hB1 : Below w.heap.size w (wr.alloc (.cells #[.string ⟨#[100]⟩, .int .i64 86400] 49)).drew := (hb.alloc hsz _).drew
        have hB2 := hB1.trans (hb2.mono (by simp; omega))
        have hB3 := (hB2.alloc (by omega) _).grown hgrow (by simp; omega) (fun k hk => (hown.lt k hk).1)
        go_wp2_with fail
        exact ⟨⟨2, m % 86400, L ++ [Lib.itoa (m / 86400) ++ [100]], rfl, by omega, rfl, by omega, by omega, by simpa using hown3, by rw [List.length_append, List.length_singleton]; omega, hB3, parts_yes (r := Sp.writT.drop 2) hh hc hil (by simp)⟩, by simp [intOf]⟩
      · go_wp2_with fail
        exact ⟨⟨2, m % 86400, L, rfl, by omega, rfl, by omega, by omega, hown.alloc _, by omega, hb.alloc hsz _, parts_no (r := Sp.writT.drop 2) hh hc⟩, by simp [intOf]⟩
    · have hi := idxWrit2
      by_cases hc : 0 < m / 3600
      · have hT3 := hT2.below ((Below.refl _ wr).alloc (Nat.le_refl _) (.cells #[.string ⟨#[104]⟩, .int .i64 3600] 49))
        obtain ⟨i0, hi0, hz0, hz1, hz2⟩ := info_parts info9
        have hfar : some wr.heap.size ≠ u3.ownBlock := fun h => by have := (hown.lt _ h.symm).2; omega
        have hown' := hown.alloc (.cells #[.string ⟨#[104]⟩, .int .i64 3600] 49)
        have hil : (Lib.itoa (m / 3600)).length ≤ 21 := Lib.itoa_length_le _ (by omega) (by omega)
        have hadd : ∀ W, (Op.stringOp .add ⟨(Lib.itoa (m / 3600)).toArray⟩ ⟨#[104]⟩).run Tryd.prog W = .ok (.string ⟨(Lib.itoa (m / 3600) ++ [104]).toArray⟩) W := fun W => run_string_add_lists W _ _ (by omega) (by simp)
        go_wp2_with fail
        go_region_held3 (fun w' => w'.cell? ⟨wr.heap.size, 0, none⟩ = some (.string ⟨#[104]⟩) ∧ w'.cell? ⟨wr.heap.size, 1, none⟩ = some (.int .i64 3600))
          (first | go_keep | (go_split_ands; refine ⟨?_, ?_⟩ <;> (rw [hb2.cell (by simp)]; first | assumption | simp)) | (go_split_ands; refine ⟨?_, ?_⟩ <;> (rw [hgrow.cell_far _ (by simp; omega) hfar]; assumption)))
          (first
            | (go_at_call 21; refine (fmt_any _ (by omega) (by omega) _ (by first | exact hT3 | exact hT3.drew | exact hT3.drew.drew)).mono ?_; rintro e w2 ⟨rfl, hb2⟩; have hsz2 := hb2.size; simp at hsz2)
            | (refine step_append_lies _ (by rfl) _ _ _ (by rfl) w.heap.size 9 i0 _ 1 16 Tryd.underlying47 hi0 hz0 hz1 hz2 rfl (by omega) u3 L.length (L.map strV) (by rfl) (by first | exact (owns_below hown' hb2).alloc _ | exact (owns_below hown'.drew hb2).alloc _)
                ⟨w2.heap.size, 0, none⟩ 1 1 [strV (Lib.itoa (m / 3600) ++ [104])] (by rfl) (by rfl) (World.news_of_block (cs := #[strV (Lib.itoa (m / 3600) ++ [104])]) (t := 9) (fr := (0, 0)) (heap_alloc_new w2 _)) (by simp [Value.oneCell', strV])
                (by omega) (by unfold maxLen; omega) (by omega) (by simp; omega) (w2.heap.size + 1) (by simp) ?_; intro g cap w3 hown3 hgrow hat hlt))
        go_split_ands
        clear hadd hi
        have hB1 : Below w.heap.size w (wr.alloc (.cells #[.string ⟨#[104]⟩, .int .i64 3600] 49)).drew := (hb.alloc hsz _).drew
        have hB2 := hB1.trans (hb2.mono (by simp; omega))
        have hB3 := (hB2.alloc (by omega) _).grown hgrow (by simp; omega) (fun k hk => (hown.lt k hk).1)
        go_wp2_with fail
        exact ⟨⟨3, m % 3600, L ++ [Lib.itoa (m / 3600) ++ [104]], rfl, by omega, rfl, by omega, by omega, by simpa using hown3, by rw [List.length_append, List.length_singleton]; omega, hB3, parts_yes (r := Sp.writT.drop 3) hh hc hil (by simp)⟩, by simp [intOf]⟩
      · go_wp2_with fail
        exact ⟨⟨3, m % 3600, L, rfl, by omega, rfl, by omega, by omega, hown.alloc _, by omega, hb.alloc hsz _, parts_no (r := Sp.writT.drop 3) hh hc⟩, by simp [intOf]⟩
    · have hi := idxWrit3
      by_cases hc : 0 < m / 60
      · have hT3 := hT2.below ((Below.refl _ wr).alloc (Nat.le_refl _) (.cells #[.string ⟨#[109, 105, 110]⟩, .int .i64 60] 49))
        obtain ⟨i0, hi0, hz0, hz1, hz2⟩ := info_parts info9
        have hfar : some wr.heap.size ≠ u3.ownBlock := fun h => by have := (hown.lt _ h.symm).2; omega
        have hown' := hown.alloc (.cells #[.string ⟨#[109, 105, 110]⟩, .int .i64 60] 49)
        have hil : (Lib.itoa (m / 60)).length ≤ 21 := Lib.itoa_length_le _ (by omega) (by omega)
        have hadd : ∀ W, (Op.stringOp .add ⟨(Lib.itoa (m / 60)).toArray⟩ ⟨#[109, 105, 110]⟩).run Tryd.prog W = .ok (.string ⟨(Lib.itoa (m / 60) ++ [109, 105, 110]).toArray⟩) W := fun W => run_string_add_lists W _ _ (by omega) (by simp)
        go_wp2_with fail
        go_region_held3 (fun w' => w'.cell? ⟨wr.heap.size, 0, none⟩ = some (.string ⟨#[109, 105, 110]⟩) ∧ w'.cell? ⟨wr.heap.size, 1, none⟩ = some (.int .i64 60))
          (first | go_keep | (go_split_ands; refine ⟨?_, ?_⟩ <;> (rw [hb2.cell (by simp)]; first | assumption | simp)) | (go_split_ands; refine ⟨?_, ?_⟩ <;> (rw [hgrow.cell_far _ (by simp; omega) hfar]; assumption)))
          (first
            | (go_at_call 21; refine (fmt_any _ (by omega) (by omega) _ (by first | exact hT3 | exact hT3.drew | exact hT3.drew.drew)).mono ?_; rintro e w2 ⟨rfl, hb2⟩; have hsz2 := hb2.size; simp at hsz2)
            | (refine step_append_lies _ (by rfl) _ _ _ (by rfl) w.heap.size 9 i0 _ 1 16 Tryd.underlying47 hi0 hz0 hz1 hz2 rfl (by omega) u3 L.length (L.map strV) (by rfl) (by first | exact (owns_below hown' hb2).alloc _ | exact (owns_below hown'.drew hb2).alloc _)
                ⟨w2.heap.size, 0, none⟩ 1 1 [strV (Lib.itoa (m / 60) ++ [109, 105, 110])] (by rfl) (by rfl) (World.news_of_block (cs := #[strV (Lib.itoa (m / 60) ++ [109, 105, 110])]) (t := 9) (fr := (0, 0)) (heap_alloc_new w2 _)) (by simp [Value.oneCell', strV])
                (by omega) (by unfold maxLen; omega) (by omega) (by simp; omega) (w2.heap.size + 1) (by simp) ?_; intro g cap w3 hown3 hgrow hat hlt))
        go_split_ands
        clear hadd hi
        have hB1 : Below w.heap.size w (wr.alloc (.cells #[.string ⟨#[109, 105, 110]⟩, .int .i64 60] 49)).drew := (hb.alloc hsz _).drew
        have hB2 := hB1.trans (hb2.mono (by simp; omega))
        have hB3 := (hB2.alloc (by omega) _).grown hgrow (by simp; omega) (fun k hk => (hown.lt k hk).1)
        go_wp2_with fail
        exact ⟨⟨4, m % 60, L ++ [Lib.itoa (m / 60) ++ [109, 105, 110]], rfl, by omega, rfl, by omega, by omega, by simpa using hown3, by rw [List.length_append, List.length_singleton]; omega, hB3, parts_yes (r := Sp.writT.drop 4) hh hc hil (by simp)⟩, by simp [intOf]⟩
      · go_wp2_with fail
        exact ⟨⟨4, m % 60, L, rfl, by omega, rfl, by omega, by omega, hown.alloc _, by omega, hb.alloc hsz _, parts_no (r := Sp.writT.drop 4) hh hc⟩, by simp [intOf]⟩
    · have hi := idxWrit4
      by_cases hc : 0 < m
      · have hT3 := hT2.below ((Below.refl _ wr).alloc (Nat.le_refl _) (.cells #[.string ⟨#[115]⟩, .int .i64 1] 49))
        obtain ⟨i0, hi0, hz0, hz1, hz2⟩ := info_parts info9
        have hfar : some wr.heap.size ≠ u3.ownBlock := fun h => by have := (hown.lt _ h.symm).2; omega
        have hown' := hown.alloc (.cells #[.string ⟨#[115]⟩, .int .i64 1] 49)
        have hil : (Lib.itoa (m)).length ≤ 21 := Lib.itoa_length_le _ (by omega) (by omega)
        have hadd : ∀ W, (Op.stringOp .add ⟨(Lib.itoa (m)).toArray⟩ ⟨#[115]⟩).run Tryd.prog W = .ok (.string ⟨(Lib.itoa (m) ++ [115]).toArray⟩) W := fun W => run_string_add_lists W _ _ (by omega) (by simp)
        go_wp2_with fail
        go_region_held3 (fun w' => w'.cell? ⟨wr.heap.size, 0, none⟩ = some (.string ⟨#[115]⟩) ∧ w'.cell? ⟨wr.heap.size, 1, none⟩ = some (.int .i64 1))
          (first | go_keep | (go_split_ands; refine ⟨?_, ?_⟩ <;> (rw [hb2.cell (by simp)]; first | assumption | simp)) | (go_split_ands; refine ⟨?_, ?_⟩ <;> (rw [hgrow.cell_far _ (by simp; omega) hfar]; assumption)))
          (first
            | (go_at_call 21; refine (fmt_any _ (by omega) (by omega) _ (by first | exact hT3 | exact hT3.drew | exact hT3.drew.drew)).mono ?_; rintro e w2 ⟨rfl, hb2⟩; have hsz2 := hb2.size; simp at hsz2)
            | (refine step_append_lies _ (by rfl) _ _ _ (by rfl) w.heap.size 9 i0 _ 1 16 Tryd.underlying47 hi0 hz0 hz1 hz2 rfl (by omega) u3 L.length (L.map strV) (by rfl) (by first | exact (owns_below hown' hb2).alloc _ | exact (owns_below hown'.drew hb2).alloc _)
                ⟨w2.heap.size, 0, none⟩ 1 1 [strV (Lib.itoa (m) ++ [115])] (by rfl) (by rfl) (World.news_of_block (cs := #[strV (Lib.itoa (m) ++ [115])]) (t := 9) (fr := (0, 0)) (heap_alloc_new w2 _)) (by simp [Value.oneCell', strV])
                (by omega) (by unfold maxLen; omega) (by omega) (by simp; omega) (w2.heap.size + 1) (by simp) ?_; intro g cap w3 hown3 hgrow hat hlt))
        go_split_ands
        clear hadd hi
        have hB1 : Below w.heap.size w (wr.alloc (.cells #[.string ⟨#[115]⟩, .int .i64 1] 49)).drew := (hb.alloc hsz _).drew
        have hB2 := hB1.trans (hb2.mono (by simp; omega))
        have hB3 := (hB2.alloc (by omega) _).grown hgrow (by simp; omega) (fun k hk => (hown.lt k hk).1)
        go_wp2_with fail
        exact ⟨⟨5, 0, L ++ [Lib.itoa (m) ++ [115]], rfl, by omega, rfl, by omega, by omega, by simpa using hown3, by rw [List.length_append, List.length_singleton]; omega, hB3, parts_yes1 (r := Sp.writT.drop 5) hh hc hil (by simp)⟩, by simp [intOf]⟩
      · go_wp2_with fail
        exact ⟨⟨5, 0, L, rfl, by omega, rfl, by omega, by omega, hown.alloc _, by omega, hb.alloc hsz _, parts_no1 (r := Sp.writT.drop 5) hh hc⟩, by simp [intOf]⟩
    · go_wp2_with fail
      have hL : Hid (Sp.printP n = Lib.join L [32]) := by
        show _ = _
        rw [hp.out, hh.2]
        simp [Sp.partsOf, Sp.writT]
      rcases hown.2 with ⟨hv, hz⟩ | ⟨g, cap, cur, hv, hg1, hg2, hg3, hg4, hg5, hg6⟩
      · obtain rfl : L = [] := List.length_eq_zero_iff.1 hz
        rw [hv]
        refine (Tryd.strings_Join_none none 0 ⟨#[32]⟩ wr).mono ?_
        rintro e w2 ⟨rfl, rfl⟩
        go_wp2_with fail
        go_ret
        refine ⟨?_, hb⟩
        rw [hL.out]
        rfl
      · have hglt : g < wr.heap.size := by
          rcases Nat.lt_or_ge g wr.heap.size with h | h
          · exact h
          · rw [Array.getElem?_eq_none h] at hg2; cases hg2
        rw [hv] at hown ⊢
        refine (join_any L g cap _ wr hown hh.1 (by omega) hglt hg3).mono ?_
        rintro e w2 ⟨rfl, hb2⟩
        go_wp2_with fail
        go_ret
        refine ⟨?_, hb.trans (hb2.mono hsz)⟩
        rw [hL.out]
        rfl
end Go.Proofs.YtlnfapkpehhafaaDoor
