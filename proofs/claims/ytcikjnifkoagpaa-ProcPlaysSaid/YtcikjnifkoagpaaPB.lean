/- Contracts of package proc's Spawn, Fork, Kill. -/
import Derived.Test.YtcikjnifkoagpaaPA
namespace Go.Proofs.Ytcikjnifkoagpaa
open Go.RowKit Go.Shelf
def newP (last parent : Int) (g c : ByteArray) : Pr := ⟨last + 1, parent, g, false, 0, c, false, false⟩
/-- May it have a child? -/
def mayP (l : Ps) (k : Int) : Bool := thereP l k && !(getP l k).zom
theorem hidP {p : Prop} (h : p) : Hid p := h
theorem Tb.last {w : World} {bt bm : Nat} {room last : Int} {l : Ps} (h : Tb w bt bm room last l) (x : Int) : Tb (w.setCell ⟨bt, 1, none⟩ (.int .i64 x)) bt bm room x l := by
  obtain ⟨n, hn, ho⟩ := h.mp
  exact ⟨(World.cell?_setCell_other _ _ _ _ (by simp)).trans h.c0, World.cell?_setCell_same' _ _ _ (by rw [h.c1]; rfl), (World.cell?_setCell_other _ _ _ _ (by simp)).trans h.c2, (World.frozen?_setCell _ _ _ _).trans h.fz, n, hn, ho.setCell (a := ⟨bt, 1, none⟩) h.ne.symm _⟩
set_option maxRecDepth 100000 in
set_option maxHeartbeats 4000000 in
theorem spawn_ok (bt bm : Nat) (room last : Int) (l : Ps) (k : Int) (g c : ByteArray) (w : World) (h : Tb w bt bm room last l) (h0 : -9223372036854775808 ≤ k) (h1 : k ≤ 9223372036854775807)
    (hm : mayP l k = true) (hr : (l.length : Int) < room) (hl : ∀ q ∈ l, q.pid ≤ last) (hlen : l.length ≤ 900) (hla : 0 ≤ last) (hlb : last ≤ 1000000) :
    Calls Try.prog 7 #[.pointer (some ⟨bt, 0, none⟩), .int .i64 k, .string g, .string c] w fun e w' => e = .returned (.tuple #[.int .i64 (last + 1), .int .i64 0]) ∧ Tb w' bt bm room (last + 1) (l ++ [newP last k g c]) ∧ Mv (fun k => k = bt ∨ k = bm) w w' := by
  have hG := get_any bt bm room last l k w h h0 h1
  unfold mayP at hm
  simp only [Bool.and_eq_true, Bool.not_eq_true'] at hm
  rw [hm.1] at hG
  obtain ⟨q, hq⟩ : ∃ q, getP l k = q := ⟨_, rfl⟩
  have hz := hm.2
  rw [hq] at hG hz
  clear hq hm
  obtain ⟨p0, p1, p2, p3, p4, p5, p6, p7⟩ := q
  simp only at hz
  subst hz
  simp only [prV] at hG
  go_enter Try.func7, Try.ntmps7
  go_wp2_with fail
  refine hG.mono ?_
  rintro e w1 ⟨rfl, hb1⟩
  obtain ⟨W, hW⟩ : ∃ W, w1.alloc (.cells #[.int .i64 p0, .int .i64 p1, .string p2, .bool false, .int .i64 p4, .string p5] 40) = W := ⟨_, rfl⟩
  have hB : Below w.heap.size w W := by rw [← hW]; exact hb1.trans ((Below.refl _ _).alloc hb1.size _)
  have hT := h.below hB
  have d3 : W.cell? ⟨w1.heap.size, 3, none⟩ = some (.bool false) := by rw [← hW]; exact cell_at rfl rfl
  have c0 := hT.c0
  have c1 := hT.c1
  have c2 := hT.c2
  have hln := (hT.mv (Mv.drew (fun _ => False) W) (fun h => h) (fun h => h)).len 3
  have hrb : decide (room ≤ (l.length : Int)) = false := by simp; omega
  have hlH := hidP hl
  clear hG hb1 hl
  go_wp2_with (rw [hW])
  go_region
  clear c0 c1 c2 hln d3
  obtain ⟨V, hV⟩ : ∃ V, W.drew = V := ⟨_, rfl⟩
  have hBV : Below w.heap.size w V := by rw [← hV]; exact hB.drew
  have hTV := h.below hBV
  have fz := hTV.fz
  have c1 := hTV.c1
  obtain ⟨U, hU⟩ : ∃ U, V.setCell ⟨bt, 1, none⟩ (.int .i64 (last + 1)) = U := ⟨_, rfl⟩
  have hTU : Tb U bt bm room (last + 1) l := by rw [← hU]; exact hTV.last _
  have mU : Mv (fun k => k = bt ∨ k = bm) w U := by rw [← hU]; exact (Mv.below (hBV.mono (Nat.le_refl _))).setc (.inl (.inl rfl)) _
  have hTD := hTU.mv (Mv.drew (fun _ => False) U) (fun h => h) (fun h => h)
  obtain ⟨w4, hrun, hT4, m4⟩ := hTD.store (p := newP last k g c) (by show _ ≤ last + 1; omega) (by show last + 1 ≤ _; omega) (put_last (fun q hq => by have := hlH.out q hq; show _ < last + 1; omega)) (by simp; omega)
  have m4' : Mv (fun k => k = bt ∨ k = bm) w w4 := (mU.trans' (Mv.drew _ _)).trans' (m4.mono (fun k _ e => .inr e))
  have hT4H := hidP hT4
  have m4H := hidP m4'
  have e1 := hTU.c1
  have e2 := hTU.c2
  simp only [psV, newP] at hrun
  clear hT hTV hTD hTU m4 m4' mU hT4 hB hBV hW h hlH
  rw [hV]
  go_wp2_with (rw [hU])
  go_region
  clear e1 e2 c1
  have c1 := hT4H.out.c1
  go_wp2_with fail
  go_ret2
  exact ⟨rfl, hT4H.out, m4H.out⟩
set_option maxRecDepth 100000 in
set_option maxHeartbeats 4000000 in
theorem spawn_bad (bt bm : Nat) (room last : Int) (l : Ps) (k : Int) (g c : ByteArray) (w : World) (h : Tb w bt bm room last l) (h0 : -9223372036854775808 ≤ k) (h1 : k ≤ 9223372036854775807) (hm : mayP l k = false) :
    Calls Try.prog 7 #[.pointer (some ⟨bt, 0, none⟩), .int .i64 k, .string g, .string c] w fun e w' => e = .returned (.tuple #[.int .i64 0, .int .i64 80]) ∧ Below w.heap.size w w' := by
  have hG := get_any bt bm room last l k w h h0 h1
  unfold mayP at hm
  obtain ⟨q, hq⟩ : ∃ q, getP l k = q := ⟨_, rfl⟩
  obtain ⟨s, hs⟩ : ∃ s, thereP l k = s := ⟨_, rfl⟩
  rw [hq, hs] at hG hm
  clear hq hs
  obtain ⟨p0, p1, p2, p3, p4, p5, p6, p7⟩ := q
  simp only [prV] at hG hm
  cases s with
  | false =>
    clear hm
    go_enter Try.func7, Try.ntmps7
    go_wp2_with fail
    refine hG.mono ?_
    rintro e w1 ⟨rfl, hb1⟩
    go_wp2_with fail
    go_ret2
    exact ⟨rfl, hb1.trans ((Below.refl _ _).alloc hb1.size _)⟩
  | true =>
    have hp3 : p3 = true := by simpa using hm
    subst hp3
    clear hm
    go_enter Try.func7, Try.ntmps7
    go_wp2_with fail
    refine hG.mono ?_
    rintro e w1 ⟨rfl, hb1⟩
    go_wp2_with fail
    go_ret2
    exact ⟨rfl, hb1.trans ((Below.refl _ _).alloc hb1.size _)⟩
set_option maxRecDepth 100000 in
set_option maxHeartbeats 4000000 in
theorem spawn_full (bt bm : Nat) (room last : Int) (l : Ps) (k : Int) (g c : ByteArray) (w : World) (h : Tb w bt bm room last l) (h0 : -9223372036854775808 ≤ k) (h1 : k ≤ 9223372036854775807)
    (hm : mayP l k = true) (hr : room ≤ (l.length : Int)) :
    Calls Try.prog 7 #[.pointer (some ⟨bt, 0, none⟩), .int .i64 k, .string g, .string c] w fun e w' => e = .returned (.tuple #[.int .i64 0, .int .i64 81]) ∧ Below w.heap.size w w' := by
  have hG := get_any bt bm room last l k w h h0 h1
  unfold mayP at hm
  simp only [Bool.and_eq_true, Bool.not_eq_true'] at hm
  rw [hm.1] at hG
  obtain ⟨q, hq⟩ : ∃ q, getP l k = q := ⟨_, rfl⟩
  have hz := hm.2
  rw [hq] at hG hz
  clear hq hm
  obtain ⟨p0, p1, p2, p3, p4, p5, p6, p7⟩ := q
  simp only at hz
  subst hz
  simp only [prV] at hG
  go_enter Try.func7, Try.ntmps7
  go_wp2_with fail
  refine hG.mono ?_
  rintro e w1 ⟨rfl, hb1⟩
  obtain ⟨W, hW⟩ : ∃ W, w1.alloc (.cells #[.int .i64 p0, .int .i64 p1, .string p2, .bool false, .int .i64 p4, .string p5] 40) = W := ⟨_, rfl⟩
  have hB : Below w.heap.size w W := by rw [← hW]; exact hb1.trans ((Below.refl _ _).alloc hb1.size _)
  have hT := h.below hB
  have d3 : W.cell? ⟨w1.heap.size, 3, none⟩ = some (.bool false) := by rw [← hW]; exact cell_at rfl rfl
  have c0 := hT.c0
  have c2 := hT.c2
  have hln := (hT.mv (Mv.drew (fun _ => False) W) (fun h => h) (fun h => h)).len 3
  have hBH := hidP hB
  clear hG hb1 hB
  go_wp2_with (rw [hW])
  go_region
  go_wp2_with fail
  go_ret2
  exact ⟨rfl, hBH.out.drew⟩
/-- What comes of Spawn. -/
structure Sp where
  n : Int
  e : Int
  last : Int
  l : Ps
def spP (room last : Int) (l : Ps) (k : Int) (g c : ByteArray) : Sp :=
  if mayP l k = true then (if room ≤ (l.length : Int) then ⟨0, 81, last, l⟩ else ⟨last + 1, 0, last + 1, l ++ [newP last k g c]⟩) else ⟨0, 80, last, l⟩
theorem spawn_any (bt bm : Nat) (room last : Int) (l : Ps) (k : Int) (g c : ByteArray) (w : World) (h : Tb w bt bm room last l) (h0 : -9223372036854775808 ≤ k) (h1 : k ≤ 9223372036854775807)
    (hl : ∀ q ∈ l, q.pid ≤ last) (hlen : l.length ≤ 900) (hla : 0 ≤ last) (hlb : last ≤ 1000000) :
    Calls Try.prog 7 #[.pointer (some ⟨bt, 0, none⟩), .int .i64 k, .string g, .string c] w fun e w' => e = .returned (.tuple #[.int .i64 (spP room last l k g c).n, .int .i64 (spP room last l k g c).e]) ∧ Tb w' bt bm room (spP room last l k g c).last (spP room last l k g c).l ∧ Mv (fun k => k = bt ∨ k = bm) w w' := by
  unfold spP
  cases hm : mayP l k with
  | false =>
    simp only [Bool.false_eq_true, if_false]
    refine (spawn_bad bt bm room last l k g c w h h0 h1 hm).mono ?_
    rintro e w' ⟨rfl, hb⟩
    exact ⟨rfl, h.below hb, Mv.below hb⟩
  | true =>
    simp only [if_true]
    by_cases hr : room ≤ (l.length : Int)
    · rw [if_pos hr]
      refine (spawn_full bt bm room last l k g c w h h0 h1 hm hr).mono ?_
      rintro e w' ⟨rfl, hb⟩
      exact ⟨rfl, h.below hb, Mv.below hb⟩
    · rw [if_neg hr]
      exact spawn_ok bt bm room last l k g c w h h0 h1 hm (by omega) hl hlen hla hlb
end Go.Proofs.Ytcikjnifkoagpaa
