import Derived.Test.YtehlnhljpdjppaaGreatDoorZE
import Derived.Test.YtehlnhljpdjppaaGreatDoorZF
import Derived.Test.YtehlnhljpdjppaaGreatDoorZD
import Derived.Test.YtehlnhljpdjppaaGreatDoorZC
import Derived.Deep.DeepCutAuto
/- What holds where one block alone has turned. -/
namespace Go.Proofs.YtehlnhljpdjppaaGreatDoor
open Go.RowKit
def nil7 : Array Value := #[.slice none 0 0, .slice none 0 0, .slice none 0 0, .slice none 0 0, .slice none 0 0, .slice none 0 0, .slice none 0 0]
structure Ob (b : Nat) (w w' : World) : Prop where
  os : w'.os = w.os
  tape : w'.tape = w.tape
  output : w'.output = w.output
  size : w.heap.size ≤ w'.heap.size
  block : ∀ k, k < w.heap.size → k ≠ b → w'.heap[k]? = w.heap[k]?
theorem St.ob {W0 W : World} {b o : Nat} {c1 c2 c3 : Option (List Part)} (h : St W0 b o c1 c2 c3 W) : Ob b W0 W := ⟨h.os, h.tape, h.output, h.size, h.block⟩
theorem Ob.old {b : Nat} {w w' : World} (h : Ob b w w') {k j : Nat} {u : Value} (hk : k ≠ b) (hu : w.cell? ⟨k, j, none⟩ = some u) : w'.cell? ⟨k, j, none⟩ = some u := by
  rw [← hu]
  exact World.cell?_of_block (a := ⟨k, j, none⟩) (h.block k (cell_lt hu) hk)
theorem Ob.glp {b : Nat} {w w' : World} (h : Ob b w w') (hg : GlP w) (hb : 2 < b) : GlP w' := by
  obtain ⟨m, hm⟩ := hg.mx
  exact ⟨⟨fun j v hv => h.old (by omega) (hg.gl.lim j v hv), fun j v hv => h.old (by omega) (hg.gl.len j v hv), fun h => h, fun h => h⟩, ⟨m, h.old (by omega) hm⟩⟩
theorem Ob.pin {b : Nat} {w w' : World} (h : Ob b w w') {E : Nat → Prop} {u : Value} {ps : List Part} (hp : Pin E w u ps) (hb : E b) : Pin E w' u ps := by
  obtain ⟨p, cap, rfl, hl, hc⟩ := hp
  refine ⟨p, cap, rfl, hl, fun i q hq => ?_⟩
  obtain ⟨b', o', rfl, hE, c0, c1, c2, c3⟩ := hc i q hq
  have hne : b' ≠ b := fun e => hE (e ▸ hb)
  exact ⟨b', o', rfl, hE, h.old hne c0, h.old hne c1, h.old hne c2, h.old hne c3⟩
theorem nil7_cell {W : World} {r x : Nat} {t : TypeId} (h : W.heap[r]? = some (.cells nil7 t (0, 0))) (u : Value) (hu : W.cell? ⟨r, x, none⟩ = some u) : u = .slice none 0 0 := by
  have : nil7[x]? = some u := by simpa [World.cell?, h] using hu
  obtain ⟨hx, e⟩ := Array.getElem?_eq_some_iff.1 this
  have hx' : x < 7 := hx
  rw [← e]
  match x, hx' with
  | 0, _ => rfl
  | 1, _ => rfl
  | 2, _ => rfl
  | 3, _ => rfl
  | 4, _ => rfl
  | 5, _ => rfl
  | 6, _ => rfl
theorem nil7_at {W : World} {r : Nat} {t : TypeId} (h : W.heap[r]? = some (.cells nil7 t (0, 0))) (j : Nat) (hj : j < 7) : W.cell? ⟨r, j, none⟩ = some (.slice none 0 0) := by
  have : W.cell? ⟨r, j, none⟩ = nil7[j]? := by simp [World.cell?, h]
  rw [this]
  match j, hj with
  | 0, _ => rfl
  | 1, _ => rfl
  | 2, _ => rfl
  | 3, _ => rfl
  | 4, _ => rfl
  | 5, _ => rfl
  | 6, _ => rfl
theorem nil7_froz {W : World} {r : Nat} {t : TypeId} (h : W.heap[r]? = some (.cells nil7 t (0, 0))) (j : Nat) : W.frozen? ⟨r, j, none⟩ = false := by simp [World.frozen?, h]
theorem pin_off {E : Nat → Prop} {W : World} {v : Value} {ps : List Part} {r : Nat} {t : TypeId} (hp : Pin E W v ps) (h : W.heap[r]? = some (.cells nil7 t (0, 0))) : Pin (fun k => k = r) W v ps := by
  obtain ⟨p, cap, rfl, hl, hc⟩ := hp
  refine ⟨p, cap, rfl, hl, fun i q hq => ?_⟩
  obtain ⟨b', o', rfl, _, c0, c1, c2, c3⟩ := hc i q hq
  refine ⟨b', o', rfl, fun e => ?_, c0, c1, c2, c3⟩
  subst e
  cases nil7_cell h _ c0
theorem ob_set (r j : Nat) (w : World) (v : Value) : Ob r w (w.setCell ⟨r, j, none⟩ v) :=
  ⟨rfl, rfl, rfl, by simp [World.setCell], fun k _ hk => by simp [World.setCell, Array.getElem?_modify, Ne.symm hk]⟩
theorem Ob.trans {r : Nat} {a b c : World} (h : Ob r a b) (h' : Ob r b c) : Ob r a c :=
  ⟨h'.os.trans h.os, h'.tape.trans h.tape, h'.output.trans h.output, Nat.le_trans h.size h'.size, fun k hk hne => (h'.block k (Nat.lt_of_lt_of_le hk h.size) hne).trans (h.block k hk hne)⟩
theorem Ob.below {r : Nat} {w a b : World} (hb : Below w.heap.size w a) (h : Ob r a b) (hr : w.heap.size ≤ r) : Below w.heap.size w b :=
  ⟨h.os.trans hb.os, h.tape.trans hb.tape, h.output.trans hb.output, Nat.le_trans hb.size h.size, fun k hk => (h.block k (Nat.lt_of_lt_of_le hk hb.size) (by omega)).trans (hb.block k hk)⟩
theorem cb_nil {W : World} {b : Nat} {t : TypeId} (hb : 2 < b) (h : W.heap[b]? = some (.cells nil7 t (0, 0))) : Cb W b :=
  ⟨hb, fun j hj => ⟨_, nil7_at h j hj⟩, fun j => nil7_froz h j⟩
theorem St.cb {W0 W : World} {b o : Nat} {c1 c2 c3 : Option (List Part)} (h : St W0 b o c1 c2 c3 W) (hc : Cb W0 b) : Cb W b :=
  ⟨hc.hb, fun j hj => by
    obtain ⟨u, hu⟩ := hc.hc j hj
    exact Option.isSome_iff_exists.1 (h.there j (by rw [hu]; rfl)), fun j => (h.froz j).trans (hc.hf j)⟩
end Go.Proofs.YtehlnhljpdjppaaGreatDoor
/- The contract of package calendar's parseFields at a text of one word that is a date. -/
namespace Go.Proofs.YtehlnhljpdjppaaGreatDoor
open Go.RowKit
def FldP (w : World) (c : Option Cal.C7) (e : Ending) (w' : World) : Prop :=
  ∃ S : Nat → Sl, e = .returned (.tuple #[aggC S, .bool c.isSome]) ∧ Below w.heap.size w w' ∧ ∀ x, c = some x → CalPin (fun _ => False) w' S x
theorem below7 {w W : World} (h : Below w.heap.size w W) (v0 v1 v2 v3 v4 v5 v6 : Value) : Below w.heap.size w (((((((W.setCell ⟨w.heap.size, 0, none⟩ v0).setCell ⟨w.heap.size, 1, none⟩ v1).setCell ⟨w.heap.size, 2, none⟩ v2).setCell ⟨w.heap.size, 3, none⟩ v3).setCell ⟨w.heap.size, 4, none⟩ v4).setCell ⟨w.heap.size, 5, none⟩ v5).setCell ⟨w.heap.size, 6, none⟩ v6) :=
  ((((((h.setCell (p := ⟨w.heap.size, 0, none⟩) (Nat.le_refl _) _).setCell (p := ⟨w.heap.size, 1, none⟩) (Nat.le_refl _) _).setCell (p := ⟨w.heap.size, 2, none⟩) (Nat.le_refl _) _).setCell (p := ⟨w.heap.size, 3, none⟩) (Nat.le_refl _) _).setCell (p := ⟨w.heap.size, 4, none⟩) (Nat.le_refl _) _).setCell (p := ⟨w.heap.size, 5, none⟩) (Nat.le_refl _) _).setCell (p := ⟨w.heap.size, 6, none⟩) (Nat.le_refl _) _
theorem ob7 (r : Nat) (W : World) (v0 v1 v2 v3 v4 v5 v6 : Value) : Ob r W (((((((W.setCell ⟨r, 0, none⟩ v0).setCell ⟨r, 1, none⟩ v1).setCell ⟨r, 2, none⟩ v2).setCell ⟨r, 3, none⟩ v3).setCell ⟨r, 4, none⟩ v4).setCell ⟨r, 5, none⟩ v5).setCell ⟨r, 6, none⟩ v6) :=
  ((((((ob_set r 0 W v0).trans (ob_set r 1 _ v1)).trans (ob_set r 2 _ v2)).trans (ob_set r 3 _ v3)).trans (ob_set r 4 _ v4)).trans (ob_set r 5 _ v5)).trans (ob_set r 6 _ v6)
theorem pins_set {r : Nat} {W V : World} {S : Nat → Sl} {c : Cal.C7} (h : CalPin (fun k => k = r) W S c) (ho : Ob r W V) : CalPin (fun _ => False) V S c :=
  ⟨(ho.pin h.p0 rfl).none, (ho.pin h.p1 rfl).none, (ho.pin h.p2 rfl).none, (ho.pin h.p3 rfl).none, (ho.pin h.p4 rfl).none, (ho.pin h.p5 rfl).none, (ho.pin h.p6 rfl).none⟩
theorem bdn {n : Nat} {w W : World} (h : Below n w W) (q : Nat) : Below n w (W.drewN q) := ⟨h.os, h.tape, h.output, h.size, h.block⟩
set_option maxRecDepth 100000 in
set_option maxHeartbeats 1000000 in
theorem fieldsD (s : ByteArray) (w : World) (hg : GlP w) (hs : s.size ≤ 100000) (hL : splitT s (str1 32) 3 = [s]) (hw : (pL pWds (splitT s (str1 44) 12)).isSome = false) (hd : Lib.contains s.data.toList [45] = true) (y mo d hh mi se : List Part)
    (hD : pD s = some (y, mo, d)) (hCl : pC ⟨#[48, 48, 58, 48, 48, 58, 48, 48]⟩ = some (hh, mi, se)) :
    Calls Tryz.prog 29 #[.string s] w (FldP w (some ⟨[], y, mo, d, hh, mi, se⟩)) := by
  have hB0 : Below w.heap.size w (w.alloc (.cells #[.slice none 0 0, .slice none 0 0, .slice none 0 0, .slice none 0 0, .slice none 0 0, .slice none 0 0, .slice none 0 0] 24)) := (Below.refl _ _).alloc (Nat.le_refl _) _
  have hg0 := hg.below hB0
  have hSp := split_any s (str1 32) 3 (w.alloc (.cells #[.slice none 0 0, .slice none 0 0, .slice none 0 0, .slice none 0 0, .slice none 0 0, .slice none 0 0, .slice none 0 0] 24)) hg0 hs (by decide) (by decide)
  rw [hL] at hSp
  go_enter Tryz.func29, Tryz.ntmps29
  go_wp2_with fail
  refine hSp.mono ?_
  rintro e w1 ⟨cap, rfl, hcap, hb1, hcells⟩
  have c1 : w1.cell? ⟨w.heap.size + 1, 0, none⟩ = some (.string s) := by simpa using hcells 0 s rfl
  have hb01 : Below w.heap.size w w1 := hB0.trans (hb1.mono (by simp))
  have hw1 : w.heap.size + 1 < w1.heap.size := cell_lt c1
  have kr1 : Hid (w1.heap[w.heap.size]? = some (.cells nil7 24 (0, 0))) := (hb1.block _ (by simp)).trans (heap_alloc_new _ _)
  have hg1 := hg.below hb01
  have hBb : Below w1.heap.size w1 (w1.alloc (.cells #[.slice none 0 0, .slice none 0 0, .slice none 0 0, .slice none 0 0, .slice none 0 0, .slice none 0 0, .slice none 0 0] 24)) := (Below.refl _ _).alloc (Nat.le_refl _) _
  have hLs := listW_any s _ (hg1.below hBb) hs
  rw [hw] at hLs
  clear hcells hSp hB0 hg0 hb1
  go_wp2_with fail
  refine hLs.mono ?_
  rintro e w2 ⟨sl, rfl, hb2, -⟩
  have c2 : w2.cell? ⟨w.heap.size + 1, 0, none⟩ = some (.string s) := by
    rw [hb2.cell (p := ⟨w.heap.size + 1, 0, none⟩) (by simp; omega), hBb.cell (p := ⟨w.heap.size + 1, 0, none⟩) hw1]; exact c1
  have hg2 := (hg1.below hBb).below hb2
  have kb : Hid (w2.heap[w1.heap.size]? = some (.cells nil7 24 (0, 0))) := (hb2.block _ (by simp)).trans (heap_alloc_new _ _)
  have kr : Hid (w2.heap[w.heap.size]? = some (.cells nil7 24 (0, 0))) := (hb2.block _ (by simp; omega)).trans ((hBb.block _ (by omega)).trans kr1.out)
  have hb12 : Below w.heap.size w w2 := hb01.trans ((hBb.trans (hb2.mono hBb.size)).mono hb01.size)
  have h2w : 2 < w.heap.size := by obtain ⟨m, hm⟩ := hg.mx; have h1 := cell_lt hm; have h2 := hg.gl.len.pos; simp only at h1; omega
  obtain ⟨mx, hmx⟩ := hg2.mx
  have hCt := Tryz.strings_Contains s ⟨#[45]⟩ mx w2 (by omega) hmx
  rw [show (⟨#[45]⟩ : ByteArray).data.toList = [45] from rfl, hd] at hCt
  clear hLs
  go_wp2_with fail
  refine hCt.mono ?_
  rintro e w3 ⟨rfl, rfl⟩
  clear hCt
  go_wp2_with fail
  go_quiet (fail)
  go_wp2_with fail
  all_goals
    have kb' : (w3.drewN nq).heap[w1.heap.size]? = some (.cells nil7 24 (0, 0)) := kb.out
    have kr' : (w3.drewN nq).heap[w.heap.size]? = some (.cells nil7 24 (0, 0)) := kr.out
    have hcb := cb_nil (by omega) kb'
    have hg3 : GlP (w3.drewN nq) := hg2.below (bdn (Below.refl _ _) _)
    have hb13 : Below w.heap.size w (w3.drewN nq) := bdn hb12 _
    have hpd := parseDate_any s w1.heap.size (w3.drewN nq) hg3 hs hcb
    rw [hD] at hpd
    refine hpd.mono ?_
    rintro e w4 ⟨rfl, a1, a2, a3, hS1, ht1⟩
    obtain ⟨rfl, rfl, rfl⟩ := ht1 y mo d rfl
    have hpc := parseClock_any ⟨#[48, 48, 58, 48, 48, 58, 48, 48]⟩ w1.heap.size w4 (hS1.ob.glp hg3 (by omega)) (by decide) (hS1.cb hcb)
    rw [hCl] at hpc
    have X1 : Hid (St (w3.drewN nq) w1.heap.size 1 (some y) (some mo) (some d) w4 ∧ (w3.drewN nq).heap[w1.heap.size]? = some (.cells nil7 24 (0, 0)) ∧ (w3.drewN nq).heap[w.heap.size]? = some (.cells nil7 24 (0, 0)) ∧ Below w.heap.size w (w3.drewN nq)) := ⟨hS1, kb', kr', hb13⟩
    clear hpd ht1 hS1 kb' kr' hb13 hg3 hcb
    go_wp2_with fail
    refine hpc.mono ?_
    rintro e w5 ⟨rfl, a4, a5, a6, hS2, ht2⟩
    obtain ⟨rfl, rfl, rfl⟩ := ht2 hh mi se rfl
    clear ht2 hpc
    obtain ⟨hS1, kb', kr', hb13⟩ := X1.out
    obtain ⟨s1, e1, p1⟩ := hS1.p1 _ rfl
    obtain ⟨s2, e2, p2⟩ := hS1.p2 _ rfl
    obtain ⟨s3, e3, p3⟩ := hS1.p3 _ rfl
    obtain ⟨s4, f4, p4⟩ := hS2.p1 _ rfl
    obtain ⟨s5, f5, p5⟩ := hS2.p2 _ rfl
    obtain ⟨s6, f6, p6⟩ := hS2.p3 _ rfl
    have f0 : w5.cell? ⟨w1.heap.size, 0, none⟩ = some (.slice none 0 0) := (hS2.rest 0 (by decide) (by decide) (by decide)).trans ((hS1.rest 0 (by decide) (by decide) (by decide)).trans (nil7_at kb' 0 (by decide)))
    have f1 := (hS2.rest 1 (by decide) (by decide) (by decide)).trans e1
    have f2 := (hS2.rest 2 (by decide) (by decide) (by decide)).trans e2
    have f3 := (hS2.rest 3 (by decide) (by decide) (by decide)).trans e3
    have hrl : w.heap.size < (w3.drewN nq).heap.size := cell_lt (nil7_at kr' 0 (by decide))
    have hrm : w.heap.size < w4.heap.size := Nat.lt_of_lt_of_le hrl hS1.size
    have hrn : w.heap.size ≠ w1.heap.size := by omega
    have kr4 : w5.heap[w.heap.size]? = some (.cells nil7 24 (0, 0)) := (hS2.block _ hrm hrn).trans ((hS1.block _ hrl hrn).trans kr')
    have Y : Hid (CalPin (fun k => k = w.heap.size) w5 (fun j => [(none, 0, 0), s1, s2, s3, s4, s5, s6].getD j (none, 0, 0)) ⟨[], y, mo, d, hh, mi, se⟩) :=
      ⟨⟨none, 0, rfl, by simp, fun i q h => by simp at h⟩, pin_off (hS2.ob.pin p1 rfl) kr4, pin_off (hS2.ob.pin p2 rfl) kr4, pin_off (hS2.ob.pin p3 rfl) kr4, pin_off p4 kr4, pin_off p5 kr4, pin_off p6 kr4⟩
    have Z : Hid (Below w.heap.size w w5) := by
      have h1 := hS1.ob.below hb13 (by omega)
      exact hS2.ob.below h1 (by omega)
    have g0 := nil7_at kr4 0 (by decide)
    have g1 := nil7_at kr4 1 (by decide)
    have g2 := nil7_at kr4 2 (by decide)
    have g3 := nil7_at kr4 3 (by decide)
    have g4 := nil7_at kr4 4 (by decide)
    have g5 := nil7_at kr4 5 (by decide)
    have g6 := nil7_at kr4 6 (by decide)
    have r0 := nil7_froz kr4 0
    have r1 := nil7_froz kr4 1
    have r2 := nil7_froz kr4 2
    have r3 := nil7_froz kr4 3
    have r4 := nil7_froz kr4 4
    have r5 := nil7_froz kr4 5
    have r6 := nil7_froz kr4 6
    clear hS1 hS2 kb' kr' hb13 e1 e2 e3 p1 p2 p3 p4 p5 p6 X1 kr4
    go_wp2_with fail
    refine bodyPost_ret (v := .tuple #[aggC (fun j => [(none, 0, 0), s1, s2, s3, s4, s5, s6].getD j (none, 0, 0)), .bool true]) (by simp [results, Tryz.results29, go_sem, g0, g1, g2, g3, g4, g5, g6]) rfl ⟨_, rfl, ?_, fun x hx => ?_⟩
    · exact below7 Z.out _ _ _ _ _ _ _
    · cases hx
      exact pins_set Y.out (ob7 _ _ _ _ _ _ _ _ _)
end Go.Proofs.YtehlnhljpdjppaaGreatDoor
/- The contract of package calendar's Parse, where parseFields tells an expression. -/
namespace Go.Proofs.YtehlnhljpdjppaaGreatDoor
open Go.RowKit
def ParP (w : World) (x : Cal.C7) (e : Ending) (w' : World) : Prop :=
  ∃ S : Nat → Sl, e = .returned (.tuple #[aggC S, .int .i64 0]) ∧ Below w.heap.size w w' ∧ CalPin (fun _ => False) w' S x
set_option maxRecDepth 100000 in
set_option maxHeartbeats 1000000 in
theorem parse_yes (s : ByteArray) (w : World) (hg : GlP w) (x : Cal.C7) (hI : isB x = true) (hF : ∀ w, GlP w → Calls Tryz.prog 29 #[.string (spell s)] w (FldP w (some x))) :
    Calls Tryz.prog 10 #[.string s] w (ParP w x) := by
  have hB0 : Below w.heap.size w (w.alloc (.cells nil7 24)) := (Below.refl _ _).alloc (Nat.le_refl _) _
  have hFa := hF _ (hg.below hB0)
  go_enter Tryz.func10, Tryz.ntmps10
  go_wp2_with (go_at_call 30; refine (spell_any s _).mono ?_; rintro e w' ⟨rfl, rfl⟩)
  refine hFa.mono ?_
  rintro e w1 ⟨S, rfl, hb1, hp⟩
  have kr : Hid (w1.heap[w.heap.size]? = some (.cells nil7 24 (0, 0))) := (hb1.block _ (by simp)).trans (heap_alloc_new _ _)
  have hp1 := hp x rfl
  have hb01 : Below w.heap.size w w1 := hB0.trans (hb1.mono (by simp))
  have hw1 : w.heap.size < w1.heap.size := by have := hb1.size; simp at this; omega
  have hBb : Below w1.heap.size w1 (w1.alloc (.cells #[slv (S 0), slv (S 1), slv (S 2), slv (S 3), slv (S 4), slv (S 5), slv (S 6)] 24)) := (Below.refl _ _).alloc (Nat.le_refl _) _
  have hIs := isC_any S x (w1.alloc (.cells #[slv (S 0), slv (S 1), slv (S 2), slv (S 3), slv (S 4), slv (S 5), slv (S 6)] 24)) ⟨hp1.p0.below hBb, hp1.p1.below hBb, hp1.p2.below hBb, hp1.p3.below hBb, hp1.p4.below hBb, hp1.p5.below hBb, hp1.p6.below hBb⟩ ((hg.below hb01).below hBb).gl
  rw [hI] at hIs
  clear hFa hp hF hB0 hb1
  simp only [Option.isSome_some]
  go_wp2_with fail
  refine hIs.mono ?_
  rintro e w2 ⟨rfl, hb2⟩
  have kr2 : w2.heap[w.heap.size]? = some (.cells nil7 24 (0, 0)) := (hb2.block _ (by simp; omega)).trans ((hBb.block _ hw1).trans kr.out)
  have hbx : Below w.heap.size w w2 := hb01.trans ((hBb.trans (hb2.mono hBb.size)).mono hb01.size)
  have hY : CalPin (fun k => k = w.heap.size) w2 S x := ⟨pin_off ((hp1.p0.below hBb).below hb2) kr2, pin_off ((hp1.p1.below hBb).below hb2) kr2, pin_off ((hp1.p2.below hBb).below hb2) kr2, pin_off ((hp1.p3.below hBb).below hb2) kr2, pin_off ((hp1.p4.below hBb).below hb2) kr2, pin_off ((hp1.p5.below hBb).below hb2) kr2, pin_off ((hp1.p6.below hBb).below hb2) kr2⟩
  have f0 : w2.cell? ⟨w1.heap.size, 0, none⟩ = some (slv (S 0)) := (hb2.cell (p := ⟨w1.heap.size, 0, none⟩) (by simp)).trans (cell_at rfl rfl)
  have f1 : w2.cell? ⟨w1.heap.size, 1, none⟩ = some (slv (S 1)) := (hb2.cell (p := ⟨w1.heap.size, 1, none⟩) (by simp)).trans (cell_at rfl rfl)
  have f2 : w2.cell? ⟨w1.heap.size, 2, none⟩ = some (slv (S 2)) := (hb2.cell (p := ⟨w1.heap.size, 2, none⟩) (by simp)).trans (cell_at rfl rfl)
  have f3 : w2.cell? ⟨w1.heap.size, 3, none⟩ = some (slv (S 3)) := (hb2.cell (p := ⟨w1.heap.size, 3, none⟩) (by simp)).trans (cell_at rfl rfl)
  have f4 : w2.cell? ⟨w1.heap.size, 4, none⟩ = some (slv (S 4)) := (hb2.cell (p := ⟨w1.heap.size, 4, none⟩) (by simp)).trans (cell_at rfl rfl)
  have f5 : w2.cell? ⟨w1.heap.size, 5, none⟩ = some (slv (S 5)) := (hb2.cell (p := ⟨w1.heap.size, 5, none⟩) (by simp)).trans (cell_at rfl rfl)
  have f6 : w2.cell? ⟨w1.heap.size, 6, none⟩ = some (slv (S 6)) := (hb2.cell (p := ⟨w1.heap.size, 6, none⟩) (by simp)).trans (cell_at rfl rfl)
  have g0 := nil7_at kr2 0 (by decide)
  have g1 := nil7_at kr2 1 (by decide)
  have g2 := nil7_at kr2 2 (by decide)
  have g3 := nil7_at kr2 3 (by decide)
  have g4 := nil7_at kr2 4 (by decide)
  have g5 := nil7_at kr2 5 (by decide)
  have g6 := nil7_at kr2 6 (by decide)
  have r0 := nil7_froz kr2 0
  have r1 := nil7_froz kr2 1
  have r2 := nil7_froz kr2 2
  have r3 := nil7_froz kr2 3
  have r4 := nil7_froz kr2 4
  have r5 := nil7_froz kr2 5
  have r6 := nil7_froz kr2 6
  have Y : Hid (CalPin (fun k => k = w.heap.size) w2 S x) := hY
  have Z : Hid (Below w.heap.size w w2) := hbx
  clear hIs hY hbx hp1 hb2 hBb hb01 kr kr2
  go_wp2_with fail
  refine bodyPost_ret (v := (.tuple #[aggC S, .int .i64 0])) (by simp [results, Tryz.results10, go_sem, g0, g1, g2, g3, g4, g5, g6]) rfl ⟨_, rfl, below7 Z.out _ _ _ _ _ _ _, pins_set Y.out (ob7 _ _ _ _ _ _ _ _ _)⟩
set_option maxRecDepth 100000 in
set_option maxHeartbeats 1000000 in
theorem parse_no (s : ByteArray) (w : World) (hg : GlP w) (x : Cal.C7) (hI : isB x = false) (hF : ∀ w, GlP w → Calls Tryz.prog 29 #[.string (spell s)] w (FldP w (some x))) :
    Calls Tryz.prog 10 #[.string s] w fun e w' => e = .returned (.tuple #[aggC fun _ => (none, 0, 0), .int .i64 30]) ∧ Below w.heap.size w w' := by
  have hB0 : Below w.heap.size w (w.alloc (.cells nil7 24)) := (Below.refl _ _).alloc (Nat.le_refl _) _
  have hFa := hF _ (hg.below hB0)
  go_enter Tryz.func10, Tryz.ntmps10
  go_wp2_with (go_at_call 30; refine (spell_any s _).mono ?_; rintro e w' ⟨rfl, rfl⟩)
  refine hFa.mono ?_
  rintro e w1 ⟨S, rfl, hb1, hp⟩
  have kr : Hid (w1.heap[w.heap.size]? = some (.cells nil7 24 (0, 0))) := (hb1.block _ (by simp)).trans (heap_alloc_new _ _)
  have hp1 := hp x rfl
  have hb01 : Below w.heap.size w w1 := hB0.trans (hb1.mono (by simp))
  have hw1 : w.heap.size < w1.heap.size := by have := hb1.size; simp at this; omega
  have hBb : Below w1.heap.size w1 (w1.alloc (.cells #[slv (S 0), slv (S 1), slv (S 2), slv (S 3), slv (S 4), slv (S 5), slv (S 6)] 24)) := (Below.refl _ _).alloc (Nat.le_refl _) _
  have hIs := isC_any S x (w1.alloc (.cells #[slv (S 0), slv (S 1), slv (S 2), slv (S 3), slv (S 4), slv (S 5), slv (S 6)] 24)) ⟨hp1.p0.below hBb, hp1.p1.below hBb, hp1.p2.below hBb, hp1.p3.below hBb, hp1.p4.below hBb, hp1.p5.below hBb, hp1.p6.below hBb⟩ ((hg.below hb01).below hBb).gl
  rw [hI] at hIs
  clear hFa hp hF hB0 hb1
  simp only [Option.isSome_some]
  go_wp2_with fail
  refine hIs.mono ?_
  rintro e w2 ⟨rfl, hb2⟩
  have kr2 : w2.heap[w.heap.size]? = some (.cells nil7 24 (0, 0)) := (hb2.block _ (by simp; omega)).trans ((hBb.block _ hw1).trans kr.out)
  have hbx : Below w.heap.size w w2 := hb01.trans ((hBb.trans (hb2.mono hBb.size)).mono hb01.size)
  have f0 : w2.cell? ⟨w1.heap.size, 0, none⟩ = some (slv (S 0)) := (hb2.cell (p := ⟨w1.heap.size, 0, none⟩) (by simp)).trans (cell_at rfl rfl)
  have f1 : w2.cell? ⟨w1.heap.size, 1, none⟩ = some (slv (S 1)) := (hb2.cell (p := ⟨w1.heap.size, 1, none⟩) (by simp)).trans (cell_at rfl rfl)
  have f2 : w2.cell? ⟨w1.heap.size, 2, none⟩ = some (slv (S 2)) := (hb2.cell (p := ⟨w1.heap.size, 2, none⟩) (by simp)).trans (cell_at rfl rfl)
  have f3 : w2.cell? ⟨w1.heap.size, 3, none⟩ = some (slv (S 3)) := (hb2.cell (p := ⟨w1.heap.size, 3, none⟩) (by simp)).trans (cell_at rfl rfl)
  have f4 : w2.cell? ⟨w1.heap.size, 4, none⟩ = some (slv (S 4)) := (hb2.cell (p := ⟨w1.heap.size, 4, none⟩) (by simp)).trans (cell_at rfl rfl)
  have f5 : w2.cell? ⟨w1.heap.size, 5, none⟩ = some (slv (S 5)) := (hb2.cell (p := ⟨w1.heap.size, 5, none⟩) (by simp)).trans (cell_at rfl rfl)
  have f6 : w2.cell? ⟨w1.heap.size, 6, none⟩ = some (slv (S 6)) := (hb2.cell (p := ⟨w1.heap.size, 6, none⟩) (by simp)).trans (cell_at rfl rfl)
  have g0 := nil7_at kr2 0 (by decide)
  have g1 := nil7_at kr2 1 (by decide)
  have g2 := nil7_at kr2 2 (by decide)
  have g3 := nil7_at kr2 3 (by decide)
  have g4 := nil7_at kr2 4 (by decide)
  have g5 := nil7_at kr2 5 (by decide)
  have g6 := nil7_at kr2 6 (by decide)
  have r0 := nil7_froz kr2 0
  have r1 := nil7_froz kr2 1
  have r2 := nil7_froz kr2 2
  have r3 := nil7_froz kr2 3
  have r4 := nil7_froz kr2 4
  have r5 := nil7_froz kr2 5
  have r6 := nil7_froz kr2 6
  have Z : Hid (Below w.heap.size w w2) := hbx
  clear hIs hbx hp1 hb2 hBb hb01 kr kr2
  go_wp2_with fail
  refine bodyPost_ret (v := (.tuple #[aggC fun _ => (none, 0, 0), .int .i64 30])) (by simp [results, Tryz.results10, go_sem, g0, g1, g2, g3, g4, g5, g6]) rfl ⟨rfl, below7 Z.out _ _ _ _ _ _ _⟩
end Go.Proofs.YtehlnhljpdjppaaGreatDoor
/- The contract of package calendar's parseFields at every text that is an expression. -/
namespace Go.Proofs.YtehlnhljpdjppaaGreatDoor
open Go.RowKit
/-- The list of days, if the first word is one, and the words behind it. -/
def takeW : List ByteArray → List Part × List ByteArray
  | [] => ([], [])
  | a :: r => match pL pWds (splitT a (str1 44) 12) with
    | some ps => (ps, r)
    | none => ([], a :: r)
/-- The first word, if it holds this byte, and the words behind it. -/
def takeC (c : UInt8) (d : ByteArray) : List ByteArray → ByteArray × List ByteArray
  | [] => (d, [])
  | a :: r => if Lib.contains a.data.toList [c] = true then (a, r) else (d, a :: r)
def D0 : ByteArray := ⟨#[42, 45, 42, 45, 42]⟩
def C0 : ByteArray := ⟨#[48, 48, 58, 48, 48, 58, 48, 48]⟩
/-- What parseFields tells of a text. -/
def pF (s : ByteArray) : Option Cal.C7 :=
  match (takeC 58 C0 (takeC 45 D0 (takeW (splitT s (str1 32) 3)).2).2).2 with
  | [] => (pD (takeC 45 D0 (takeW (splitT s (str1 32) 3)).2).1).bind fun p => (pC (takeC 58 C0 (takeC 45 D0 (takeW (splitT s (str1 32) 3)).2).2).1).map fun q => ⟨(takeW (splitT s (str1 32) 3)).1, p.1, p.2.1, p.2.2, q.1, q.2.1, q.2.2⟩
  | _ :: _ => none
def cb7 (u : Sl) : Array Value := #[slv u, .slice none 0 0, .slice none 0 0, .slice none 0 0, .slice none 0 0, .slice none 0 0, .slice none 0 0]
/-- Between the statements of parseFields. -/
structure FS (w : World) (cb : Nat) (ps : List Part) (L : List ByteArray) (v : Value) (W : World) : Prop where
  bel : Below w.heap.size w W
  gl : GlP W
  res : W.heap[w.heap.size]? = some (.cells nil7 24 (0, 0))
  cbk : ∃ u : Sl, W.heap[cb]? = some (.cells (cb7 u) 24 (0, 0)) ∧ Pin (fun k => k = w.heap.size ∨ k = cb) W (slv u) ps
  wd : ∃ (a : Option Addr) (B o cap : Nat), v = .slice a L.length cap ∧ B ≠ cb ∧ L.length ≤ cap ∧ (0 < L.length → a = some ⟨B, o, none⟩) ∧ ∀ j x, L[j]? = some x → W.cell? ⟨B, o + j, none⟩ = some (.string x)
  lt : w.heap.size < cb
  sz : ∀ x ∈ L, x.size ≤ 100000
  big : 2 < w.heap.size
theorem pin_drewN {E : Nat → Prop} {W : World} {v : Value} {ps : List Part} (h : Pin E W v ps) (n : Nat) : Pin E (W.drewN n) v ps := h
theorem glp_drewN {W : World} (h : GlP W) (n : Nat) : GlP (W.drewN n) := h.below (bdn (Below.refl _ _) _)
theorem FS.drewN {w : World} {cb : Nat} {ps : List Part} {L : List ByteArray} {v : Value} {W : World} (h : FS w cb ps L v W) (n : Nat) : FS w cb ps L v (W.drewN n) :=
  ⟨bdn h.bel n, glp_drewN h.gl n, h.res, h.cbk, h.wd, h.lt, h.sz, h.big⟩
theorem FS.tail {w : World} {cb : Nat} {ps : List Part} {y : ByteArray} {r : List ByteArray} {a : Option Addr} {cap : Nat} {W : World} (h : FS w cb ps (y :: r) (.slice a (r.length + 1) cap) W) :
    ∃ B o, a = some ⟨B, o, none⟩ ∧ W.cell? ⟨B, o, none⟩ = some (.string y) ∧ FS w cb ps r (.slice (some ⟨B, o + 1, none⟩) r.length (cap - 1)) W ∧ r.length + 1 ≤ cap ∧ y.size ≤ 100000 := by
  obtain ⟨a', B, o, cap', hv, hn, hc, ha, hw⟩ := h.wd
  simp only [List.length_cons, Value.slice.injEq] at hv
  obtain ⟨rfl, -, rfl⟩ := hv
  refine ⟨B, o, ha (by simp), by simpa using hw 0 y rfl, ⟨h.bel, h.gl, h.res, h.cbk, ⟨_, B, o + 1, _, rfl, hn, by simp only [List.length_cons] at hc; omega, fun _ => rfl, fun j x hj => ?_⟩, h.lt, fun x hx => h.sz x (List.mem_cons_of_mem _ hx), h.big⟩, by simpa using hc, h.sz y List.mem_cons_self⟩
  have := hw (j + 1) x (by simpa using hj)
  rwa [show o + 1 + j = o + (j + 1) by omega]
end Go.Proofs.YtehlnhljpdjppaaGreatDoor
/- parseFields at every text that is an expression: the walk. -/
namespace Go.Proofs.YtehlnhljpdjppaaGreatDoor
open Go.RowKit
def hasC (c : UInt8) : List ByteArray → Bool
  | [] => false
  | a :: _ => Lib.contains a.data.toList [c]
theorem FS.start {w w1 w2 : World} {cap : Nat} {y0 : ByteArray} {r0 : List ByteArray} (hg : GlP w) (hb : Below w.heap.size w w2) (hres : w2.heap[w.heap.size]? = some (.cells nil7 24 (0, 0)))
    (hcb : w2.heap[w1.heap.size]? = some (.cells nil7 24 (0, 0))) (hlt : w.heap.size + 1 < w1.heap.size) (hcap : r0.length + 1 ≤ cap) (hcell : ∀ j x, (y0 :: r0)[j]? = some x → w2.cell? ⟨w.heap.size + 1, j, none⟩ = some (.string x)) (hsz : ∀ x ∈ y0 :: r0, x.size ≤ 100000) :
    FS w w1.heap.size [] (y0 :: r0) (.slice (some ⟨w.heap.size + 1, 0, none⟩) (r0.length + 1) cap) w2 :=
  ⟨hb, hg.below hb, hres, ⟨(none, 0, 0), hcb, none, 0, rfl, by simp, fun i q h => by simp at h⟩, ⟨_, w.heap.size + 1, 0, cap, rfl, by omega, hcap, fun _ => rfl, fun j x hj => by simpa using hcell j x hj⟩, by omega, hsz, by obtain ⟨m, hm⟩ := hg.mx; have h1 := cell_lt hm; have h2 := hg.gl.len.pos; simp only at h1; omega⟩
theorem hidI2 {p : Prop} (h : p) : Hid p := h
theorem FS.at {w : World} {cb B o : Nat} {ps : List Part} {r : List ByteArray} {n : Nat} {W : World} (h : FS w cb ps r (.slice (some ⟨B, o, none⟩) r.length n) W) {a : Option Addr} {cap : Nat} (ha : 0 < r.length → a = some ⟨B, o, none⟩) (hc : r.length ≤ cap) : FS w cb ps r (.slice a r.length cap) W := by
  obtain ⟨a', B', o', cap', hv, hn, _, ha', hw⟩ := h.wd
  simp only [Value.slice.injEq] at hv
  obtain ⟨rfl, -, rfl⟩ := hv
  exact ⟨h.bel, h.gl, h.res, h.cbk, ⟨a, B', o', cap, rfl, hn, hc, fun h0 => by rw [ha h0, ← ha' h0], hw⟩, h.lt, h.sz, h.big⟩
theorem set7 {W : World} {b : Nat} {cs : Array Value} {t : TypeId} (h : W.heap[b]? = some (.cells cs t (0, 0))) (j : Nat) (v : Value) : (W.setCell ⟨b, j, none⟩ v).heap[b]? = some (.cells (cs.setIfInBounds j v) t (0, 0)) := by
  simp [World.setCell, Array.getElem?_modify, h]
theorem pin_mono {E E' : Nat → Prop} {W : World} {v : Value} {ps : List Part} (h : Pin E W v ps) (he : ∀ k, E' k → E k) : Pin E' W v ps := by
  obtain ⟨p, cap, rfl, hl, hc⟩ := h
  exact ⟨p, cap, rfl, hl, fun i q hq => by obtain ⟨b, o, e1, e2, e3⟩ := hc i q hq; exact ⟨b, o, e1, fun h => e2 (he _ h), e3⟩⟩
/-- The list of days is laid into the expression. -/
theorem FS.week {w : World} {cb : Nat} {r : List ByteArray} {v : Value} {W : World} {sl : Sl} {ps : List Part} {n : Nat} (h : FS w cb [] r v W) (hp : Pin (fun k => k < n) W (slv sl) ps) (hn : cb < n) : FS w cb ps r v (W.setCell ⟨cb, 0, none⟩ (slv sl)) := by
  have ho := ob_set cb 0 W (slv sl)
  have hlt := h.lt
  have hbig := h.big
  obtain ⟨u, hu, -⟩ := h.cbk
  have hcl : cb < W.heap.size := (Array.getElem?_eq_some_iff.1 hu).1
  refine ⟨ho.below h.bel (by omega), ho.glp h.gl (by omega), ?_, ⟨sl, ?_, ?_⟩, ?_, hlt, h.sz, hbig⟩
  · exact (ho.block _ (by omega) (by omega)).trans h.res
  · rw [set7 hu]; rfl
  · exact ho.pin (pin_mono hp (fun k hk => by rcases hk with rfl | rfl <;> omega) : Pin (fun k => k = w.heap.size ∨ k = cb) W (slv sl) ps) (.inr rfl)
  · obtain ⟨a, B, o, cap, e1, e0, e2, e3, e4⟩ := h.wd
    exact ⟨a, B, o, cap, e1, e0, e2, e3, fun j x hj => ho.old e0 (e4 j x hj)⟩
theorem cb7_at {W : World} {b : Nat} {t : TypeId} {u : Sl} (h : W.heap[b]? = some (.cells (cb7 u) t (0, 0))) : W.cell? ⟨b, 0, none⟩ = some (slv u) := by
  have : W.cell? ⟨b, 0, none⟩ = (cb7 u)[0]? := by simp [World.cell?, h]
  rw [this]; rfl
theorem cb_cb7 {W : World} {b : Nat} {t : TypeId} {u : Sl} (hb : 2 < b) (h : W.heap[b]? = some (.cells (cb7 u) t (0, 0))) : Cb W b :=
  ⟨hb, fun j hj => by
    have : W.cell? ⟨b, j, none⟩ = (cb7 u)[j]? := by simp [World.cell?, h]
    rw [this]
    match j, hj with
    | 0, _ => exact ⟨_, rfl⟩
    | 1, _ => exact ⟨_, rfl⟩
    | 2, _ => exact ⟨_, rfl⟩
    | 3, _ => exact ⟨_, rfl⟩
    | 4, _ => exact ⟨_, rfl⟩
    | 5, _ => exact ⟨_, rfl⟩
    | 6, _ => exact ⟨_, rfl⟩, fun j => by simp [World.frozen?, h]⟩
theorem split_ne (s : ByteArray) : splitT s (str1 32) 3 ≠ [] := by
  unfold splitT
  generalize min (3 + 1) (s.size + 1) - 1 = k
  cases k with
  | zero => simp [Lib.splitB]
  | succ k => unfold Lib.splitB; split <;> simp
set_option maxRecDepth 100000 in
set_option maxHeartbeats 4000000 in
theorem fields_parts (s : ByteArray) (w : World) (hg : GlP w) (hs : s.size ≤ 100000) (y0 : ByteArray) (r0 : List ByteArray) (hL : splitT s (str1 32) 3 = y0 :: r0)
    (ps : List Part) (L1 L2 : List ByteArray) (d c : ByteArray) (hds : d.size ≤ 100000) (hcs : c.size ≤ 100000) (hW : takeW (y0 :: r0) = (ps, L1)) (hQ : takeC 45 D0 L1 = (d, L2)) (L3 : List ByteArray) (hL3 : L3 = []) (hR : takeC 58 C0 L2 = (c, L3))
    (y mo dd hh mi se : List Part) (hD : pD d = some (y, mo, dd)) (hC : pC c = some (hh, mi, se)) :
    Calls Tryz.prog 29 #[.string s] w (FldP w (some ⟨ps, y, mo, dd, hh, mi, se⟩)) := by
  have hB0 : Below w.heap.size w (w.alloc (.cells #[.slice none 0 0, .slice none 0 0, .slice none 0 0, .slice none 0 0, .slice none 0 0, .slice none 0 0, .slice none 0 0] 24)) := (Below.refl _ _).alloc (Nat.le_refl _) _
  have hg0 := hg.below hB0
  have hSp := split_any s (str1 32) 3 (w.alloc (.cells #[.slice none 0 0, .slice none 0 0, .slice none 0 0, .slice none 0 0, .slice none 0 0, .slice none 0 0, .slice none 0 0] 24)) hg0 hs (by decide) (by decide)
  have hsz : ∀ x ∈ splitT s (str1 32) 3, x.size ≤ 100000 := fun x hx => Nat.le_trans (splitB_le _ _ _ x hx) hs
  rw [hL] at hSp hsz
  have hWH : Hid (takeW (y0 :: r0) = (ps, L1)) := hW
  have hQH : Hid (takeC 45 D0 L1 = (d, L2)) := hQ
  have hRH : Hid (takeC 58 C0 L2 = (c, L3)) := hR
  have hDH : Hid (pD d = some (y, mo, dd)) := hD
  have hCH : Hid (pC c = some (hh, mi, se)) := hC
  have hL3H := hidI2 hL3
  clear hW hQ hR hD hC hL hL3
  go_enter Tryz.func29, Tryz.ntmps29
  go_wp2_with fail
  refine hSp.mono ?_
  rintro e w1 ⟨cap, rfl, hcap, hb1, hcells⟩
  have c1 : w1.cell? ⟨w.heap.size + 1, 0, none⟩ = some (.string y0) := by simpa using hcells 0 y0 rfl
  have hb01 : Below w.heap.size w w1 := hB0.trans (hb1.mono (by simp))
  have hw1 : w.heap.size + 1 < w1.heap.size := cell_lt c1
  have kr1 : Hid (w1.heap[w.heap.size]? = some (.cells nil7 24 (0, 0))) := (hb1.block _ (by simp)).trans (heap_alloc_new _ _)
  have hg1 := hg.below hb01
  have hBb : Below w1.heap.size w1 (w1.alloc (.cells #[.slice none 0 0, .slice none 0 0, .slice none 0 0, .slice none 0 0, .slice none 0 0, .slice none 0 0, .slice none 0 0] 24)) := (Below.refl _ _).alloc (Nat.le_refl _) _
  have hLs := listW_any y0 _ (hg1.below hBb) (hsz y0 List.mem_cons_self)
  have hcellsH : Hid (∀ j x, (y0 :: r0)[j]? = some x → w1.cell? ⟨w.heap.size + 1, j, none⟩ = some (.string x)) := fun j x hj => by simpa using hcells j x hj
  have hcapH : r0.length + 1 ≤ cap := by simpa using hcap
  have hlenI : (0 : Int) < ((r0.length + 1 : Nat) : Int) := by omega
  simp only [List.length_cons]
  obtain ⟨m, hm⟩ : ∃ m, r0.length = m := ⟨_, rfl⟩
  have hmH : Hid (r0.length = m) := hm
  rw [hm] at hcapH ⊢
  clear hcells hSp hB0 hg0 hb1 hcap hlenI hm
  go_wp2_with fail
  refine hLs.mono ?_
  rintro e w2 ⟨sl, rfl, hb2, hpin⟩
  have hg2 := (hg1.below hBb).below hb2
  have kb : w2.heap[w1.heap.size]? = some (.cells nil7 24 (0, 0)) := (hb2.block _ (by simp)).trans (heap_alloc_new _ _)
  have kr : w2.heap[w.heap.size]? = some (.cells nil7 24 (0, 0)) := (hb2.block _ (by simp; omega)).trans ((hBb.block _ (by omega)).trans kr1.out)
  have hb12 : Below w.heap.size w w2 := hb01.trans ((hBb.trans (hb2.mono hBb.size)).mono hb01.size)
  have hFS : Hid (FS w w1.heap.size [] (y0 :: r0) (.slice (some ⟨w.heap.size + 1, 0, none⟩) (m + 1) cap) w2) := by
    have hcs : ∀ j x, (y0 :: r0)[j]? = some x → w2.cell? ⟨w.heap.size + 1, j, none⟩ = some (.string x) := fun j x hj => by
      rw [hb2.cell (p := ⟨w.heap.size + 1, j, none⟩) (by simp; omega), hBb.cell (p := ⟨w.heap.size + 1, j, none⟩) hw1]; exact hcellsH.out j x hj
    rw [← hmH.out]
    exact FS.start hg hb12 kr kb hw1 (by rw [hmH.out]; exact hcapH) hcs hsz
  have hpinH : Hid (Pin (fun k => k < w1.heap.size + 1) w2 (slv sl) ((pL pWds (splitT y0 (str1 44) 12)).getD [])) := hidI2 (by simpa using hpin)
  have z0 := nil7_at kb 0 (by decide)
  have z1 := nil7_froz kb 0
  clear hLs hpin hcellsH kr kb hb12 hb2 hg2 hBb hg1 kr1 hb01 hw1 c1
  go_upto_if 20 with fail
  go_cut [4, 8, 9] (fun v4 _ _ wx => FS w w1.heap.size ps L1 v4 wx)
  case first =>
    cases hwk : pL pWds (splitT y0 (str1 44) 12) with
    | none =>
      have hE : FS w w1.heap.size ps L1 (.slice (some ⟨w.heap.size + 1, 0, none⟩) (m + 1) cap) w2 := by
        have h1 := hWH.out
        simp only [takeW, hwk, Prod.mk.injEq] at h1
        obtain ⟨rfl, rfl⟩ := h1
        exact hFS.out
      simp only [Option.isSome_none]
      go_wp2_with fail
      go_meet
      exact hE
    | some qs =>
      have hE : ∀ a' cap', (0 < m → a' = some ⟨w.heap.size + 1, 1, none⟩) → m ≤ cap' → FS w w1.heap.size ps L1 (.slice a' m cap') ((w2.setCell ⟨w1.heap.size, 0, none⟩ (slv sl)).drew) := fun a' cap' ha hc => by
        have h1 := hWH.out
        simp only [takeW, hwk, Prod.mk.injEq] at h1
        obtain ⟨rfl, rfl⟩ := h1
        have h2 := hFS.out
        rw [← hmH.out] at h2 ha hc ⊢
        obtain ⟨B, o, e1, _, h3, _, _⟩ := h2.tail
        simp only [Option.some.injEq, Addr.mk.injEq, and_true] at e1
        obtain ⟨rfl, rfl⟩ := e1
        have h4 := hpinH.out
        rw [hwk] at h4
        exact ((h3.at ha hc).week h4 (by omega)).drewN 1
      simp only [Option.isSome_some]
      go_wp2_with fail
      go_region
      all_goals
        go_wp2_with fail
        all_goals
          go_meet
          exact hE _ _ (fun h => by first | rfl | omega) (by omega)
  case rest =>
    have hcutH := hidI2 hcut
    clear hcut hFS hpinH hWH z0 z1
    obtain ⟨b1, hb1⟩ : ∃ b1, hasC 45 L1 = b1 := ⟨_, rfl⟩
    have hb1H : Hid (hasC 45 L1 = b1) := hb1
    clear hb1
    go_upto_region 7 with fail
    go_cut [33] (fun vb wx => vb = .bool b1 ∧ FS w w1.heap.size ps L1 u4 wx)
    case first =>
      cases L1 with
      | nil =>
        obtain ⟨a, -, -, cap', rfl, -, -, -, -⟩ := id hcutH.out.wd
        obtain rfl : b1 = false := hb1H.out.symm
        have hFH := hidI2 hcutH.out
        simp only [List.length_nil] at hFH
        clear hcutH
        simp only [List.length_nil]
        go_wp2_with fail
        go_meet
        exact ⟨rfl, hFH.out⟩
      | cons y1 r1 =>
        obtain ⟨a, -, -, cap', rfl, -, -, -, -⟩ := id hcutH.out.wd
        have hF := hcutH.out
        simp only [List.length_cons] at hF
        obtain ⟨B', o', rfl, hcell, hF2, hcap2, hsz1⟩ := hF.tail
        obtain ⟨mx, hmx⟩ := hF.gl.mx
        have hCt := Tryz.strings_Contains y1 ⟨#[45]⟩ mx wc (by omega) hmx
        have hb1' : Lib.contains y1.data.toList [45] = b1 := hb1H.out
        rw [show (⟨#[45]⟩ : ByteArray).data.toList = [45] from rfl, hb1'] at hCt
        simp only [List.length_cons]
        have hlI : (0 : Int) < (r1.length : Int) + 1 := by omega
        have hFH : Hid (FS w w1.heap.size ps (y1 :: r1) (.slice (some ⟨B', o', none⟩) (r1.length + 1) cap') wc) := hF
        clear hF hF2 hb1' hcutH
        go_wp2_with fail
        refine hCt.mono ?_
        rintro e w3 ⟨rfl, rfl⟩
        clear hCt
        go_wp2_with fail
        go_meet
        exact ⟨rfl, hFH.out⟩
    case rest =>
      obtain ⟨rfl, hcut⟩ := hcut
      have hcut1 := hidI2 hcut
      clear hcut hcutH
      go_upto_if 33 with fail
      go_cut [4, 5] (fun va vb wx => vb = .string d ∧ FS w w1.heap.size ps L2 va wx)
      case first =>
        cases b1 with
        | false =>
          have hE : d = D0 ∧ L2 = L1 := by
            have h1 := hQH.out
            have h2 := hb1H.out
            cases L1 with
            | nil => simp only [takeC, Prod.mk.injEq] at h1; exact ⟨h1.1.symm, h1.2.symm⟩
            | cons y1 r1 =>
              have h2' : Lib.contains y1.data.toList [45] = false := h2
              simp only [takeC, h2', Bool.false_eq_true, if_false, Prod.mk.injEq] at h1; exact ⟨h1.1.symm, h1.2.symm⟩
          obtain ⟨rfl, rfl⟩ := hE
          go_wp2_with fail
          go_meet
          exact ⟨rfl, hcut1.out⟩
        | true =>
          cases L1 with
          | nil => exact Bool.noConfusion hb1H.out
          | cons y1 r1 =>
            have hE : d = y1 ∧ L2 = r1 := by
              have h1 := hQH.out
              have h2' : Lib.contains y1.data.toList [45] = true := hb1H.out
              simp only [takeC, h2', if_true, Prod.mk.injEq] at h1; exact ⟨h1.1.symm, h1.2.symm⟩
            obtain ⟨rfl, rfl⟩ := hE
            obtain ⟨a, -, -, cap', rfl, -, -, -, -⟩ := id hcut1.out.wd
            have hF := hcut1.out
            simp only [List.length_cons] at hF
            obtain ⟨B', o', rfl, hcell, hF2, hcap2, hsz1⟩ := hF.tail
            simp only [List.length_cons]
            have hF3 : ∀ a' cap', (0 < L2.length → a' = some ⟨B', o' + 1, none⟩) → L2.length ≤ cap' → FS w w1.heap.size ps L2 (.slice a' L2.length cap') wc := fun a' cap' ha hc => hF2.at ha hc
            obtain ⟨m1, hm1⟩ : ∃ m1, L2.length = m1 := ⟨_, rfl⟩
            rw [hm1] at hF3 hcap2 ⊢
            have hF3H := hidI2 hF3
            clear hF hF2 hm1 hcut1 hF3
            go_wp2_with fail
            go_quiet (fail)
            go_wp2_with fail
            all_goals
              go_meet
              exact ⟨rfl, (hF3H.out _ _ (fun h => by first | rfl | omega) (by omega)).drewN _⟩
      case rest =>
        obtain ⟨rfl, hcut⟩ := hcut
        have hcutH := hidI2 hcut
        clear hcut hcut1 hQH hb1H
        obtain ⟨b2, hb2⟩ : ∃ b2, hasC 58 L2 = b2 := ⟨_, rfl⟩
        have hb2H : Hid (hasC 58 L2 = b2) := hb2
        clear hb2
        go_upto_region 9 with fail
        go_cut [47] (fun vb wx => vb = .bool b2 ∧ FS w w1.heap.size ps L2 u4 wx)
        case first =>
          cases L2 with
          | nil =>
            obtain ⟨a, -, -, cap', rfl, -, -, -, -⟩ := id hcutH.out.wd
            obtain rfl : b2 = false := hb2H.out.symm
            have hFH := hidI2 hcutH.out
            simp only [List.length_nil] at hFH
            clear hcutH
            simp only [List.length_nil]
            go_wp2_with fail
            go_meet
            exact ⟨rfl, hFH.out⟩
          | cons y1 r1 =>
            obtain ⟨a, -, -, cap', rfl, -, -, -, -⟩ := id hcutH.out.wd
            have hF := hcutH.out
            simp only [List.length_cons] at hF
            obtain ⟨B', o', rfl, hcell, hF2, hcap2, hsz1⟩ := hF.tail
            obtain ⟨mx, hmx⟩ := hF.gl.mx
            have hCt := Tryz.strings_Contains y1 ⟨#[58]⟩ mx wc (by omega) hmx
            have hb1' : Lib.contains y1.data.toList [58] = b2 := hb2H.out
            rw [show (⟨#[58]⟩ : ByteArray).data.toList = [58] from rfl, hb1'] at hCt
            simp only [List.length_cons]
            have hlI : (0 : Int) < (r1.length : Int) + 1 := by omega
            have hFH : Hid (FS w w1.heap.size ps (y1 :: r1) (.slice (some ⟨B', o', none⟩) (r1.length + 1) cap') wc) := hF
            clear hF hF2 hb1' hcutH
            go_wp2_with fail
            refine hCt.mono ?_
            rintro e w3 ⟨rfl, rfl⟩
            clear hCt
            go_wp2_with fail
            go_meet
            exact ⟨rfl, hFH.out⟩
        case rest =>
          obtain ⟨rfl, hcut⟩ := hcut
          have hcut2 := hidI2 hcut
          clear hcut hcutH
          go_upto_if 47 with fail
          go_cut [4, 6] (fun va vb wx => vb = .string c ∧ FS w w1.heap.size ps L3 va wx)
          case first =>
            cases b2 with
            | false =>
              have hE : c = C0 ∧ L3 = L2 := by
                have h1 := hRH.out
                have h2 := hb2H.out
                cases L2 with
                | nil => simp only [takeC, Prod.mk.injEq] at h1; exact ⟨h1.1.symm, h1.2.symm⟩
                | cons y1 r1 =>
                  have h2' : Lib.contains y1.data.toList [58] = false := h2
                  simp only [takeC, h2', Bool.false_eq_true, if_false, Prod.mk.injEq] at h1; exact ⟨h1.1.symm, h1.2.symm⟩
              obtain ⟨rfl, rfl⟩ := hE
              go_wp2_with fail
              go_meet
              exact ⟨rfl, hcut2.out⟩
            | true =>
              cases L2 with
              | nil => exact Bool.noConfusion hb2H.out
              | cons y1 r1 =>
                have hE : c = y1 ∧ L3 = r1 := by
                  have h1 := hRH.out
                  have h2' : Lib.contains y1.data.toList [58] = true := hb2H.out
                  simp only [takeC, h2', if_true, Prod.mk.injEq] at h1; exact ⟨h1.1.symm, h1.2.symm⟩
                obtain ⟨rfl, rfl⟩ := hE
                obtain ⟨a, -, -, cap', rfl, -, -, -, -⟩ := id hcut2.out.wd
                have hF := hcut2.out
                simp only [List.length_cons] at hF
                obtain ⟨B', o', rfl, hcell, hF2, hcap2, hsz1⟩ := hF.tail
                simp only [List.length_cons]
                have hF3 : ∀ a' cap', (0 < L3.length → a' = some ⟨B', o' + 1, none⟩) → L3.length ≤ cap' → FS w w1.heap.size ps L3 (.slice a' L3.length cap') wc := fun a' cap' ha hc => hF2.at ha hc
                obtain ⟨m1, hm1⟩ : ∃ m1, L3.length = m1 := ⟨_, rfl⟩
                rw [hm1] at hF3 hcap2 ⊢
                have hF3H := hidI2 hF3
                clear hF hF2 hm1 hcut2 hF3
                go_wp2_with fail
                go_quiet (fail)
                go_wp2_with fail
                all_goals
                  go_meet
                  exact ⟨rfl, (hF3H.out _ _ (fun h => by first | rfl | omega) (by omega)).drewN _⟩
          case rest =>
            obtain ⟨rfl, hcut⟩ := hcut
            have hcutH := hidI2 hcut
            clear hcut hcut2 hRH hb2H
            have e3 := hL3H.out
            subst e3
            have hF := hcutH.out
            obtain ⟨a, -, -, cap', rfl, -, -, -, -⟩ := id hF.wd
            obtain ⟨u, hu, hpu⟩ := hF.cbk
            have kr' := hF.res
            have hlt := hF.lt
            have hbig := hF.big
            have hcb := cb_cb7 (by omega) hu
            have hpd := parseDate_any d w1.heap.size wc hF.gl hds hcb
            rw [hDH.out] at hpd
            have hX : Hid (FS w w1.heap.size ps [] (.slice a 0 cap') wc ∧ wc.heap[w1.heap.size]? = some (.cells (cb7 u) 24 (0, 0)) ∧ Pin (fun k => k = w.heap.size ∨ k = w1.heap.size) wc (slv u) ps ∧ Cb wc w1.heap.size) := ⟨hF, hu, hpu, hcb⟩
            have hls := hidI2 hlt
            clear hF hu hpu hcb hcutH kr' hL3H hlt hg hs hsz
            simp only [List.length_nil]
            go_wp2_with fail
            refine hpd.mono ?_
            rintro e w4 ⟨rfl, a1, a2, a3, hS1, ht1⟩
            obtain ⟨rfl, rfl, rfl⟩ := ht1 y mo dd rfl
            have hpc := parseClock_any c w1.heap.size w4 (hS1.ob.glp hX.out.1.gl (by have := hls.out; omega)) hcs (hS1.cb hX.out.2.2.2)
            rw [hCH.out] at hpc
            have X1 := hidI2 hS1
            clear hpd ht1 hS1
            go_wp2_with fail
            refine hpc.mono ?_
            rintro e w5 ⟨rfl, a4, a5, a6, hS2, ht2⟩
            obtain ⟨rfl, rfl, rfl⟩ := ht2 hh mi se rfl
            clear ht2 hpc
            have hlt := hls.out
            have hS1 := X1.out
            obtain ⟨hF, hu, hpu, -⟩ := hX.out
            have kr' := hF.res
            have hb13 := hF.bel
            obtain ⟨s1, e1, p1⟩ := hS1.p1 _ rfl
            obtain ⟨s2, e2, p2⟩ := hS1.p2 _ rfl
            obtain ⟨s3, e3, p3⟩ := hS1.p3 _ rfl
            obtain ⟨s4, f4, p4⟩ := hS2.p1 _ rfl
            obtain ⟨s5, f5, p5⟩ := hS2.p2 _ rfl
            obtain ⟨s6, f6, p6⟩ := hS2.p3 _ rfl
            have f0 : w5.cell? ⟨w1.heap.size, 0, none⟩ = some (slv u) := (hS2.rest 0 (by decide) (by decide) (by decide)).trans ((hS1.rest 0 (by decide) (by decide) (by decide)).trans (cb7_at hu))
            have f1 := (hS2.rest 1 (by decide) (by decide) (by decide)).trans e1
            have f2 := (hS2.rest 2 (by decide) (by decide) (by decide)).trans e2
            have f3 := (hS2.rest 3 (by decide) (by decide) (by decide)).trans e3
            have hrl : w.heap.size < wc.heap.size := cell_lt (nil7_at kr' 0 (by decide))
            have hrm : w.heap.size < w4.heap.size := Nat.lt_of_lt_of_le hrl hS1.size
            have hrn : w.heap.size ≠ w1.heap.size := by omega
            have kr4 : w5.heap[w.heap.size]? = some (.cells nil7 24 (0, 0)) := (hS2.block _ hrm hrn).trans ((hS1.block _ hrl hrn).trans kr')
            have Y : Hid (CalPin (fun k => k = w.heap.size) w5 (fun j => [u, s1, s2, s3, s4, s5, s6].getD j (none, 0, 0)) ⟨ps, y, mo, dd, hh, mi, se⟩) :=
              ⟨pin_mono (hS2.ob.pin (hS1.ob.pin hpu (.inr rfl)) (.inr rfl)) (fun _ h => .inl h), pin_off (hS2.ob.pin p1 rfl) kr4, pin_off (hS2.ob.pin p2 rfl) kr4, pin_off (hS2.ob.pin p3 rfl) kr4, pin_off p4 kr4, pin_off p5 kr4, pin_off p6 kr4⟩
            have Z : Hid (Below w.heap.size w w5) := by
              have h1 := hS1.ob.below hb13 (by omega)
              exact hS2.ob.below h1 (by omega)
            have g0 := nil7_at kr4 0 (by decide)
            have g1 := nil7_at kr4 1 (by decide)
            have g2 := nil7_at kr4 2 (by decide)
            have g3 := nil7_at kr4 3 (by decide)
            have g4 := nil7_at kr4 4 (by decide)
            have g5 := nil7_at kr4 5 (by decide)
            have g6 := nil7_at kr4 6 (by decide)
            have r0 := nil7_froz kr4 0
            have r1 := nil7_froz kr4 1
            have r2 := nil7_froz kr4 2
            have r3 := nil7_froz kr4 3
            have r4 := nil7_froz kr4 4
            have r5 := nil7_froz kr4 5
            have r6 := nil7_froz kr4 6
            clear hS1 hS2 kr' hb13 e1 e2 e3 p1 p2 p3 p4 p5 p6 X1 kr4 hX hF hu hpu
            go_wp2_with fail
            refine bodyPost_ret (v := .tuple #[aggC (fun j => [u, s1, s2, s3, s4, s5, s6].getD j (none, 0, 0)), .bool true]) (by simp [results, Tryz.results29, go_sem, g0, g1, g2, g3, g4, g5, g6]) rfl ⟨_, rfl, ?_, fun x hx => ?_⟩
            · exact below7 Z.out _ _ _ _ _ _ _
            · cases hx
              exact pins_set Y.out (ob7 _ _ _ _ _ _ _ _ _)
theorem takeC_size {c : UInt8} {d0 : ByteArray} (h0 : d0.size ≤ 100000) : ∀ {L : List ByteArray}, (∀ x ∈ L, x.size ≤ 100000) → (takeC c d0 L).1.size ≤ 100000 ∧ ∀ x ∈ (takeC c d0 L).2, x.size ≤ 100000
  | [], h => ⟨h0, h⟩
  | a :: r, h => by
    simp only [takeC]
    split
    · exact ⟨h a List.mem_cons_self, fun x hx => h x (List.mem_cons_of_mem _ hx)⟩
    · exact ⟨h0, h⟩
theorem takeW_size : ∀ {L : List ByteArray}, (∀ x ∈ L, x.size ≤ 100000) → ∀ x ∈ (takeW L).2, x.size ≤ 100000
  | [], h => h
  | a :: r, h => by
    simp only [takeW]
    split
    · exact fun x hx => h x (List.mem_cons_of_mem _ hx)
    · exact h
theorem fields_yes (s : ByteArray) (w : World) (hg : GlP w) (hs : s.size ≤ 100000) (x : Cal.C7) (hF : pF s = some x) : Calls Tryz.prog 29 #[.string s] w (FldP w (some x)) := by
  have hsz : ∀ x ∈ splitT s (str1 32) 3, x.size ≤ 100000 := fun x hx => Nat.le_trans (splitB_le _ _ _ x hx) hs
  have h1 := takeC_size (c := 45) (d0 := D0) (by decide) (takeW_size hsz)
  have h2 := takeC_size (c := 58) (d0 := C0) (by decide) h1.2
  unfold pF at hF
  cases hL : splitT s (str1 32) 3 with
  | nil => exact absurd hL (split_ne s)
  | cons y0 r0 =>
    rw [hL] at hF h1 h2
    split at hF
    · rename_i h3
      obtain ⟨⟨y, mo, dd⟩, e1, e2⟩ := Option.bind_eq_some_iff.1 hF
      obtain ⟨⟨hh, mi, se⟩, e3, e4⟩ := Option.map_eq_some_iff.1 e2
      subst e4
      exact fields_parts s w hg hs y0 r0 hL _ _ _ _ _ h1.1 h2.1 rfl rfl _ h3 rfl y mo dd hh mi se e1 e3
    · cases hF
theorem parse_any (s : ByteArray) (w : World) (hg : GlP w) (x : Cal.C7) (hF : pF (spell s) = some x) (hI : isB x = true) (hz : (spell s).size ≤ 100000) : Calls Tryz.prog 10 #[.string s] w (ParP w x) :=
  parse_yes s w hg x hI (fun w hg => fields_yes (spell s) w hg hz x hF)
end Go.Proofs.YtehlnhljpdjppaaGreatDoor
