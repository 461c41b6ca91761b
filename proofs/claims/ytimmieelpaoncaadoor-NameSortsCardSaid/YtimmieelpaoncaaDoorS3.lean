/- The contract of package name's Sort. -/
import Derived.Test.YtimmieelpaoncaaDoorS1
import Derived.Test.YtimmieelpaoncaaDoorA3
import Derived.Test.YtimmieelpaoncaaDoorShelfS
import Derived.Lib.OwnBridge
namespace Go.Proofs.YtimmieelpaoncaaDoor
open Go.RowKit Nam Go.Sort
def bs (l : L) : ByteArray := ⟨l.toArray⟩
def RiseP (w : World) (n : Nat) (xs : List L) (e : Ending) (w' : World) : Prop :=
  ∃ g cap, e = .returned (.slice (some ⟨g, 0, none⟩) xs.length cap) ∧ xs.length ≤ n ∧ (∀ j x, xs[j]? = some x → w'.cell? ⟨g, j, none⟩ = some (.string (bs x))) ∧ Below w.heap.size w w'
theorem below_grow' {B : Nat} {w0 w : World} (h : Below B w0 w) (hB : B ≤ w.heap.size) (os : Array Obj) : Below B w0 (grow w os) :=
  ⟨h.os, h.tape, h.output, by have := h.size; simp; omega, fun k hk => by rw [← h.block k hk]; exact heap_grow_old w os (by omega)⟩
set_option maxRecDepth 100000 in
set_option maxHeartbeats 1000000 in
theorem rising_any (b o c : Nat) (zs : List ByteArray) (w : World) (hpos : 0 < zs.length) (hl : zs.length ≤ 1000) (hc : ∀ j x, zs[j]? = some x → w.cell? ⟨b, o + j, none⟩ = some (.string x)) :
    Calls Tryd.prog 53 #[.slice (some ⟨b, o, none⟩) zs.length c] w (RiseP w zs.length (rs (zs.map (·.data.toList)))) := by
  have hclone := Tryd.slices_Clone_string b o zs.length c zs w (Nat.le_refl _) (by omega) (fun j hj => hc j _ (by rw [List.getD_eq_getElem?_getD, List.getElem?_eq_getElem hj]; rfl))
  rw [List.take_length, ← Lib.map_encStr] at hclone
  clear hc
  obtain ⟨ss, hss⟩ : ∃ ss, ss = zs.map (·.data.toList) := ⟨_, rfl⟩
  have hn : zs.length = ss.length := by rw [hss, List.length_map]
  rw [← hss, hn] at hclone
  rw [← hss, hn]
  rw [hn] at hpos hl
  clear hss hn
  obtain ⟨n, hn⟩ : ∃ n, ss.length = n := ⟨_, rfl⟩
  rw [hn] at hclone hpos hl ⊢
  have hN : Hid (ss.length = n) := hn
  clear hn
  go_enter Tryd.func53, Tryd.ntmps53
  go_wp2_with fail
  refine hclone.mono ?_
  rintro e w1 ⟨v1, rfl, hown, hnn, hbel⟩
  obtain ⟨g, cap, rfl, hbg, hglt, hgc, hcm, hlen, hH⟩ := Lib.holds_of_ownsRow hown hnn
  have hsort := Tryd.slices_Sort_string g 0 cap ss w1 hH hglt (by rw [hlen]; omega)
  rw [hlen] at hsort
  have X : Hid (Holds encStr w1 g 0 ss.toArray ∧ Below w.heap.size w w1 ∧ w.heap.size ≤ g) := ⟨hH, hbel, hbg⟩
  clear hown hbel hH hnn hclone
  go_wp2_with fail
  refine hsort.mono ?_
  rintro e w2 ⟨rfl, q, os, hw2⟩
  have hml : (ss.mergeSort fun x y => decide (x ≤ y)).length = n := by rw [List.length_mergeSort, hlen]
  have hH1 : Holds encStr (putRow encStr (Sort.ahead w1 q) g 0 (ss.mergeSort fun x y => decide (x ≤ y)).toArray) g 0 (ss.mergeSort fun x y => decide (x ≤ y)).toArray :=
    holds_putRow encStr (Sort.ahead w1 q) g 0 ss.toArray _ X.out.1 (by simp [hml, hlen])
  have hb1 : Below w.heap.size w (putRow encStr (Sort.ahead w1 q) g 0 (ss.mergeSort fun x y => decide (x ≤ y)).toArray) := Lib.below_putRow X.out.2.1 X.out.2.2
  have hgl2 : g < (putRow encStr (Sort.ahead w1 q) g 0 (ss.mergeSort fun x y => decide (x ≤ y)).toArray).heap.size := by rw [size_putRow]; exact hglt
  have hH2 : Holds encStr w2 g 0 (ss.mergeSort fun x y => decide (x ≤ y)).toArray := by rw [hw2]; exact holds_grow encStr _ os g 0 _ hgl2 hH1
  have hb2 : Below w.heap.size w w2 := by rw [hw2]; exact below_grow' hb1 (by have := hb1.size; omega) os
  have hgl3 : g < w2.heap.size := by rw [hw2, size_grow]; omega
  clear hw2 hH1 hb1 hgl2 hsort X
  have hre := rise_eq ss
  obtain ⟨ms, hms⟩ : ∃ ms, ms = (ss.mergeSort fun x y => decide (x ≤ y)) := ⟨_, rfl⟩
  rw [← hms] at hre hH2 hml
  clear hms
  have hcompact := Tryd.slices_Compact_string g 0 cap ms w2 hH2 (by rw [hml]; omega) (by rw [hml]; exact hgc)
  have hcl := Lib.compact_length_le ms
  rw [hre, hml] at hcompact
  rw [hre, hml] at hcl
  obtain ⟨xs, hxs⟩ : ∃ xs, xs = rs ss := ⟨_, rfl⟩
  rw [← hxs] at hcompact hcl ⊢
  have hX : Hid (xs = rs ss) := hxs
  clear hre hxs
  have Y : Hid (Holds encStr w2 g 0 ms.toArray ∧ Below w.heap.size w w2 ∧ w.heap.size ≤ g ∧ ms.length = n) := ⟨hH2, hb2, hbg, hml⟩
  clear hH2 hb2 hml hlen
  go_wp2_with fail
  refine hcompact.mono ?_
  rintro e w3 ⟨rfl, q2, hw3⟩
  have hz : (xs ++ List.replicate (n - xs.length) []).length = n := by simp; omega
  have hcell : ∀ j x, xs[j]? = some x → w3.cell? ⟨g, j, none⟩ = some (.string (bs x)) := by
    intro j x hj
    have hjl := (List.getElem?_eq_some_iff.1 hj).1
    have h := cell?_putRow encStr (Sort.ahead w2 q2) g 0 ms.toArray (xs ++ List.replicate (n - xs.length) []).toArray Y.out.1 (by rw [List.size_toArray, List.size_toArray, hz, Y.out.2.2.2]) j (by rw [List.size_toArray, hz]; omega)
    rw [hw3]
    rw [Nat.zero_add] at h
    rw [h]
    have e0 : (xs ++ List.replicate (n - xs.length) []).toArray[j]! = x := by
      rw [getElem!_pos _ j (by rw [List.size_toArray, hz]; omega)]
      simp only [List.getElem_toArray]
      rw [List.getElem_append_left hjl]
      exact (List.getElem?_eq_some_iff.1 hj).2
    rw [e0]; rfl
  have hb3 : Below w.heap.size w w3 := by rw [hw3]; exact Lib.below_putRow Y.out.2.1 Y.out.2.2.1
  clear hw3 hcompact
  go_wp2_with fail
  go_ret
  have hX' := hX.out
  subst hX'
  exact ⟨g, cap, rfl, hcl, hcell, hb3⟩
set_option maxHeartbeats 1000000 in
theorem rising_nil (n c : Nat) (w : World) :
    Calls Tryd.prog 53 #[.slice none n c] w fun e w' => e = .returned (.slice none 0 0) ∧ w' = w := by
  go_enter Tryd.func53, Tryd.ntmps53
  go_wp2_with (first
    | (go_at_call 63; refine (Tryd.slices_Clone_string_nil n c _).mono ?_; rintro e w' ⟨rfl, rfl⟩)
    | (go_at_call 64; refine (Tryd.slices_Sort_string_none none 0 _).mono ?_; rintro e w' ⟨rfl, rfl⟩)
    | (go_at_call 65; refine (Tryd.slices_Compact_string_empty none 0 _).mono ?_; rintro e w' ⟨rfl, rfl⟩))
  go_ret
  exact ⟨rfl, rfl⟩
set_option maxHeartbeats 1000000 in
theorem nsort_any (b o c : Nat) (zs : List ByteArray) (w : World) (hpos : 0 < zs.length) (hl : zs.length ≤ 1000) (hc : ∀ j x, zs[j]? = some x → w.cell? ⟨b, o + j, none⟩ = some (.string x)) :
    Calls Tryd.prog 32 #[.slice (some ⟨b, o, none⟩) zs.length c] w (RiseP w zs.length (rs (zs.map (·.data.toList)))) := by
  have h := rising_any b o c zs w hpos hl hc
  obtain ⟨n, hn⟩ : ∃ n, zs.length = n := ⟨_, rfl⟩
  obtain ⟨xs, hxs⟩ : ∃ xs, xs = rs (zs.map (·.data.toList)) := ⟨_, rfl⟩
  rw [hn, ← hxs] at h ⊢
  clear hc hpos hl hn hxs
  go_enter Tryd.func32, Tryd.ntmps32
  go_wp2_with fail
  refine h.mono ?_
  rintro e w1 ⟨g, cap, rfl, hh⟩
  have H : Hid _ := hh
  clear hh h
  go_wp2_with fail
  go_ret
  exact ⟨g, cap, rfl, H.out⟩
set_option maxHeartbeats 1000000 in
theorem nsort_nil (n c : Nat) (w : World) :
    Calls Tryd.prog 32 #[.slice none n c] w fun e w' => e = .returned (.slice none 0 0) ∧ w' = w := by
  go_enter Tryd.func32, Tryd.ntmps32
  go_wp2_with (go_at_call 53; refine (rising_nil n c _).mono ?_; rintro e w' ⟨rfl, rfl⟩)
  go_ret
  exact ⟨rfl, rfl⟩
end Go.Proofs.YtimmieelpaoncaaDoor
