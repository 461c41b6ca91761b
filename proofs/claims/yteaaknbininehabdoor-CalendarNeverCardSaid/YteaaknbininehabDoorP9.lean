/- The contract of package calendar's parseFields at a text of one word that is a date. -/
import Derived.Test.YteaaknbininehabDoorP9a
namespace Go.Proofs.YteaaknbininehabDoor
open Go.RowKit
def FldP (w : World) (c : Option Cal.C7) (e : Ending) (w' : World) : Prop :=
  ∃ S : Nat → Sl, e = .returned (.tuple #[aggC S, .bool c.isSome]) ∧ Below w.heap.size w w' ∧ ∀ x, c = some x → CalPin (fun _ => False) w' S x
theorem below7 {w W : World} (h : Below w.heap.size w W) (v0 v1 v2 v3 v4 v5 v6 : Value) : Below w.heap.size w (((((((W.setCell ⟨w.heap.size, 0, none⟩ v0).setCell ⟨w.heap.size, 1, none⟩ v1).setCell ⟨w.heap.size, 2, none⟩ v2).setCell ⟨w.heap.size, 3, none⟩ v3).setCell ⟨w.heap.size, 4, none⟩ v4).setCell ⟨w.heap.size, 5, none⟩ v5).setCell ⟨w.heap.size, 6, none⟩ v6) :=
  ((((((h.setCell (p := ⟨w.heap.size, 0, none⟩) (Nat.le_refl _) _).setCell (p := ⟨w.heap.size, 1, none⟩) (Nat.le_refl _) _).setCell (p := ⟨w.heap.size, 2, none⟩) (Nat.le_refl _) _).setCell (p := ⟨w.heap.size, 3, none⟩) (Nat.le_refl _) _).setCell (p := ⟨w.heap.size, 4, none⟩) (Nat.le_refl _) _).setCell (p := ⟨w.heap.size, 5, none⟩) (Nat.le_refl _) _).setCell (p := ⟨w.heap.size, 6, none⟩) (Nat.le_refl _) _
theorem ob7 (r : Nat) (W : World) (v0 v1 v2 v3 v4 v5 v6 : Value) : Ob r W (((((((W.setCell ⟨r, 0, none⟩ v0).setCell ⟨r, 1, none⟩ v1).setCell ⟨r, 2, none⟩ v2).setCell ⟨r, 3, none⟩ v3).setCell ⟨r, 4, none⟩ v4).setCell ⟨r, 5, none⟩ v5).setCell ⟨r, 6, none⟩ v6) :=
  ((((((ob_set r 0 W v0).trans (ob_set r 1 _ v1)).trans (ob_set r 2 _ v2)).trans (ob_set r 3 _ v3)).trans (ob_set r 4 _ v4)).trans (ob_set r 5 _ v5)).trans (ob_set r 6 _ v6)
theorem pins_set {r : Nat} {W V : World} {S : Nat → Sl} {c : Cal.C7} (h : CalPin (fun k => k = r) W S c) (ho : Ob r W V) : CalPin (fun _ => False) V S c :=
  ⟨(ho.pin h.p0 rfl).none, (ho.pin h.p1 rfl).none, (ho.pin h.p2 rfl).none, (ho.pin h.p3 rfl).none, (ho.pin h.p4 rfl).none, (ho.pin h.p5 rfl).none, (ho.pin h.p6 rfl).none⟩
theorem bdn {n : Nat} {w W : World} (h : Below n w W) (q : Nat) : Below n w (W.drewN q) := ⟨h.os, h.tape, h.output, h.size, h.block⟩
set_option maxRecDepth 100000 in
set_option maxHeartbeats 1000000 in
theorem fieldsD (s : ByteArray) (w : World) (hg : GlP w) (hs : s.size ≤ 100000) (hL : splitT s (str1 32) 3 = [s]) (hw : (pL pWds (splitT s (str1 44) 12)).isSome = false) (hd : Lib.contains s.data.toList [45] = true) (y mo d hh mi se : List Part)
    (hD : pD s = some (y, mo, d)) (hCl : pC ⟨#[48, 48, 58, 48, 48, 58, 48, 48]⟩ = some (hh, mi, se)) :
    Calls Tryd.prog 12 #[.string s] w (FldP w (some ⟨[], y, mo, d, hh, mi, se⟩)) := by
  have hB0 : Below w.heap.size w (w.alloc (.cells #[.slice none 0 0, .slice none 0 0, .slice none 0 0, .slice none 0 0, .slice none 0 0, .slice none 0 0, .slice none 0 0] 26)) := (Below.refl _ _).alloc (Nat.le_refl _) _
  have hg0 := hg.below hB0
  have hSp := split_any s (str1 32) 3 (w.alloc (.cells #[.slice none 0 0, .slice none 0 0, .slice none 0 0, .slice none 0 0, .slice none 0 0, .slice none 0 0, .slice none 0 0] 26)) hg0 hs (by decide) (by decide)
  rw [hL] at hSp
  go_enter Tryd.func12, Tryd.ntmps12
  go_wp2_with fail
  refine hSp.mono ?_
  rintro e w1 ⟨cap, rfl, hcap, hb1, hcells⟩
  have c1 : w1.cell? ⟨w.heap.size + 1, 0, none⟩ = some (.string s) := by simpa using hcells 0 s rfl
  have hb01 : Below w.heap.size w w1 := hB0.trans (hb1.mono (by simp))
  have hw1 : w.heap.size + 1 < w1.heap.size := cell_lt c1
  have kr1 : Hid (w1.heap[w.heap.size]? = some (.cells nil7 26 (0, 0))) := (hb1.block _ (by simp)).trans (heap_alloc_new _ _)
  have hg1 := hg.below hb01
  have hBb : Below w1.heap.size w1 (w1.alloc (.cells #[.slice none 0 0, .slice none 0 0, .slice none 0 0, .slice none 0 0, .slice none 0 0, .slice none 0 0, .slice none 0 0] 26)) := (Below.refl _ _).alloc (Nat.le_refl _) _
  have hLs := listW_any s _ (hg1.below hBb) hs
  rw [hw] at hLs
  clear hcells hSp hB0 hg0 hb1
  go_wp2_with fail
  refine hLs.mono ?_
  rintro e w2 ⟨sl, rfl, hb2, -⟩
  have c2 : w2.cell? ⟨w.heap.size + 1, 0, none⟩ = some (.string s) := by
    rw [hb2.cell (p := ⟨w.heap.size + 1, 0, none⟩) (by simp; omega), hBb.cell (p := ⟨w.heap.size + 1, 0, none⟩) hw1]; exact c1
  have hg2 := (hg1.below hBb).below hb2
  have kb : Hid (w2.heap[w1.heap.size]? = some (.cells nil7 26 (0, 0))) := (hb2.block _ (by simp)).trans (heap_alloc_new _ _)
  have kr : Hid (w2.heap[w.heap.size]? = some (.cells nil7 26 (0, 0))) := (hb2.block _ (by simp; omega)).trans ((hBb.block _ (by omega)).trans kr1.out)
  have hb12 : Below w.heap.size w w2 := hb01.trans ((hBb.trans (hb2.mono hBb.size)).mono hb01.size)
  have h2w : 2 < w.heap.size := by obtain ⟨m, hm⟩ := hg.mx; exact cell_lt hm
  obtain ⟨mx, hmx⟩ := hg2.mx
  have hCt := Tryd.strings_Contains s ⟨#[45]⟩ mx w2 (by omega) hmx
  rw [show (⟨#[45]⟩ : ByteArray).data.toList = [45] from rfl, hd] at hCt
  clear hLs
  go_wp2_with fail
  refine hCt.mono ?_
  rintro e w3 ⟨rfl, rfl⟩
  clear hCt
  go_wp2_with fail
  go_quiet (fail)
  go_wp2_with fail
  all_goals
    have kb' : (w3.drewN nq).heap[w1.heap.size]? = some (.cells nil7 26 (0, 0)) := kb.out
    have kr' : (w3.drewN nq).heap[w.heap.size]? = some (.cells nil7 26 (0, 0)) := kr.out
    have hcb := cb_nil (by omega) kb'
    have hg3 : GlP (w3.drewN nq) := hg2.below (bdn (Below.refl _ _) _)
    have hb13 : Below w.heap.size w (w3.drewN nq) := bdn hb12 _
    have hpd := parseDate_any s w1.heap.size (w3.drewN nq) hg3 hs hcb
    rw [hD] at hpd
    refine hpd.mono ?_
    rintro e w4 ⟨rfl, a1, a2, a3, hS1, ht1⟩
    obtain ⟨rfl, rfl, rfl⟩ := ht1 y mo d rfl
    have hpc := parseClock_any ⟨#[48, 48, 58, 48, 48, 58, 48, 48]⟩ w1.heap.size w4 (hS1.ob.glp hg3 (by omega)) (by decide) (hS1.cb hcb)
    rw [hCl] at hpc
    have X1 : Hid (St (w3.drewN nq) w1.heap.size 1 (some y) (some mo) (some d) w4 ∧ (w3.drewN nq).heap[w1.heap.size]? = some (.cells nil7 26 (0, 0)) ∧ (w3.drewN nq).heap[w.heap.size]? = some (.cells nil7 26 (0, 0)) ∧ Below w.heap.size w (w3.drewN nq)) := ⟨hS1, kb', kr', hb13⟩
    clear hpd ht1 hS1 kb' kr' hb13 hg3 hcb
    go_wp2_with fail
    refine hpc.mono ?_
    rintro e w5 ⟨rfl, a4, a5, a6, hS2, ht2⟩
    obtain ⟨rfl, rfl, rfl⟩ := ht2 hh mi se rfl
    clear ht2 hpc
    obtain ⟨hS1, kb', kr', hb13⟩ := X1.out
    obtain ⟨s1, e1, p1⟩ := hS1.p1 _ rfl
    obtain ⟨s2, e2, p2⟩ := hS1.p2 _ rfl
    obtain ⟨s3, e3, p3⟩ := hS1.p3 _ rfl
    obtain ⟨s4, f4, p4⟩ := hS2.p1 _ rfl
    obtain ⟨s5, f5, p5⟩ := hS2.p2 _ rfl
    obtain ⟨s6, f6, p6⟩ := hS2.p3 _ rfl
    have f0 : w5.cell? ⟨w1.heap.size, 0, none⟩ = some (.slice none 0 0) := (hS2.rest 0 (by decide) (by decide) (by decide)).trans ((hS1.rest 0 (by decide) (by decide) (by decide)).trans (nil7_at kb' 0 (by decide)))
    have f1 := (hS2.rest 1 (by decide) (by decide) (by decide)).trans e1
    have f2 := (hS2.rest 2 (by decide) (by decide) (by decide)).trans e2
    have f3 := (hS2.rest 3 (by decide) (by decide) (by decide)).trans e3
    have hrl : w.heap.size < (w3.drewN nq).heap.size := cell_lt (nil7_at kr' 0 (by decide))
    have hrm : w.heap.size < w4.heap.size := Nat.lt_of_lt_of_le hrl hS1.size
    have hrn : w.heap.size ≠ w1.heap.size := by omega
    have kr4 : w5.heap[w.heap.size]? = some (.cells nil7 26 (0, 0)) := (hS2.block _ hrm hrn).trans ((hS1.block _ hrl hrn).trans kr')
    have Y : Hid (CalPin (fun k => k = w.heap.size) w5 (fun j => [(none, 0, 0), s1, s2, s3, s4, s5, s6].getD j (none, 0, 0)) ⟨[], y, mo, d, hh, mi, se⟩) :=
      ⟨⟨none, 0, rfl, by simp, fun i q h => by simp at h⟩, pin_off (hS2.ob.pin p1 rfl) kr4, pin_off (hS2.ob.pin p2 rfl) kr4, pin_off (hS2.ob.pin p3 rfl) kr4, pin_off p4 kr4, pin_off p5 kr4, pin_off p6 kr4⟩
    have Z : Hid (Below w.heap.size w w5) := by
      have h1 := hS1.ob.below hb13 (by omega)
      exact hS2.ob.below h1 (by omega)
    have g0 := nil7_at kr4 0 (by decide)
    have g1 := nil7_at kr4 1 (by decide)
    have g2 := nil7_at kr4 2 (by decide)
    have g3 := nil7_at kr4 3 (by decide)
    have g4 := nil7_at kr4 4 (by decide)
    have g5 := nil7_at kr4 5 (by decide)
    have g6 := nil7_at kr4 6 (by decide)
    have r0 := nil7_froz kr4 0
    have r1 := nil7_froz kr4 1
    have r2 := nil7_froz kr4 2
    have r3 := nil7_froz kr4 3
    have r4 := nil7_froz kr4 4
    have r5 := nil7_froz kr4 5
    have r6 := nil7_froz kr4 6
    clear hS1 hS2 kb' kr' hb13 e1 e2 e3 p1 p2 p3 p4 p5 p6 X1 kr4
    go_wp2_with fail
    refine bodyPost_ret (v := .tuple #[aggC (fun j => [(none, 0, 0), s1, s2, s3, s4, s5, s6].getD j (none, 0, 0)), .bool true]) (by simp [results, Tryd.results12, go_sem, g0, g1, g2, g3, g4, g5, g6]) rfl ⟨_, rfl, ?_, fun x hx => ?_⟩
    · exact below7 Z.out _ _ _ _ _ _ _
    · cases hx
      exact pins_set Y.out (ob7 _ _ _ _ _ _ _ _ _)
end Go.Proofs.YteaaknbininehabDoor
