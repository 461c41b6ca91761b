import Derived.Test.YtlpheplifjeffaaDoorZE
import Derived.Test.YtlpheplifjeffaaDoorZF
import Derived.Test.YtlpheplifjeffaaDoorZD
import Derived.Test.YtlpheplifjeffaaDoorZC
/- What holds where one block alone has turned. -/
namespace Go.Proofs.YtlpheplifjeffaaDoor
open Go.RowKit
def nil7 : Array Value := #[.slice none 0 0, .slice none 0 0, .slice none 0 0, .slice none 0 0, .slice none 0 0, .slice none 0 0, .slice none 0 0]
structure Ob (b : Nat) (w w' : World) : Prop where
  os : w'.os = w.os
  tape : w'.tape = w.tape
  output : w'.output = w.output
  size : w.heap.size ≤ w'.heap.size
  block : ∀ k, k < w.heap.size → k ≠ b → w'.heap[k]? = w.heap[k]?
theorem St.ob {W0 W : World} {b o : Nat} {c1 c2 c3 : Option (List Part)} (h : St W0 b o c1 c2 c3 W) : Ob b W0 W := ⟨h.os, h.tape, h.output, h.size, h.block⟩
theorem Ob.old {b : Nat} {w w' : World} (h : Ob b w w') {k j : Nat} {u : Value} (hk : k ≠ b) (hu : w.cell? ⟨k, j, none⟩ = some u) : w'.cell? ⟨k, j, none⟩ = some u := by
  rw [← hu]
  exact World.cell?_of_block (a := ⟨k, j, none⟩) (h.block k (cell_lt hu) hk)
theorem Ob.glp {b : Nat} {w w' : World} (h : Ob b w w') (hg : GlP w) (hb : 2 < b) : GlP w' := by
  obtain ⟨m, hm⟩ := hg.mx
  exact ⟨⟨fun j v hv => h.old (by omega) (hg.gl.lim j v hv), fun j v hv => h.old (by omega) (hg.gl.len j v hv), fun h => h, fun h => h⟩, ⟨m, h.old (by omega) hm⟩⟩
theorem Ob.pin {b : Nat} {w w' : World} (h : Ob b w w') {E : Nat → Prop} {u : Value} {ps : List Part} (hp : Pin E w u ps) (hb : E b) : Pin E w' u ps := by
  obtain ⟨p, cap, rfl, hl, hc⟩ := hp
  refine ⟨p, cap, rfl, hl, fun i q hq => ?_⟩
  obtain ⟨b', o', rfl, hE, c0, c1, c2, c3⟩ := hc i q hq
  have hne : b' ≠ b := fun e => hE (e ▸ hb)
  exact ⟨b', o', rfl, hE, h.old hne c0, h.old hne c1, h.old hne c2, h.old hne c3⟩
theorem nil7_cell {W : World} {r x : Nat} {t : TypeId} (h : W.heap[r]? = some (.cells nil7 t (0, 0))) (u : Value) (hu : W.cell? ⟨r, x, none⟩ = some u) : u = .slice none 0 0 := by
  have : nil7[x]? = some u := by simpa [World.cell?, h] using hu
  obtain ⟨hx, e⟩ := Array.getElem?_eq_some_iff.1 this
  have hx' : x < 7 := hx
  rw [← e]
  match x, hx' with
  | 0, _ => rfl
  | 1, _ => rfl
  | 2, _ => rfl
  | 3, _ => rfl
  | 4, _ => rfl
  | 5, _ => rfl
  | 6, _ => rfl
theorem nil7_at {W : World} {r : Nat} {t : TypeId} (h : W.heap[r]? = some (.cells nil7 t (0, 0))) (j : Nat) (hj : j < 7) : W.cell? ⟨r, j, none⟩ = some (.slice none 0 0) := by
  have : W.cell? ⟨r, j, none⟩ = nil7[j]? := by simp [World.cell?, h]
  rw [this]
  match j, hj with
  | 0, _ => rfl
  | 1, _ => rfl
  | 2, _ => rfl
  | 3, _ => rfl
  | 4, _ => rfl
  | 5, _ => rfl
  | 6, _ => rfl
theorem nil7_froz {W : World} {r : Nat} {t : TypeId} (h : W.heap[r]? = some (.cells nil7 t (0, 0))) (j : Nat) : W.frozen? ⟨r, j, none⟩ = false := by simp [World.frozen?, h]
theorem pin_off {E : Nat → Prop} {W : World} {v : Value} {ps : List Part} {r : Nat} {t : TypeId} (hp : Pin E W v ps) (h : W.heap[r]? = some (.cells nil7 t (0, 0))) : Pin (fun k => k = r) W v ps := by
  obtain ⟨p, cap, rfl, hl, hc⟩ := hp
  refine ⟨p, cap, rfl, hl, fun i q hq => ?_⟩
  obtain ⟨b', o', rfl, _, c0, c1, c2, c3⟩ := hc i q hq
  refine ⟨b', o', rfl, fun e => ?_, c0, c1, c2, c3⟩
  subst e
  cases nil7_cell h _ c0
theorem ob_set (r j : Nat) (w : World) (v : Value) : Ob r w (w.setCell ⟨r, j, none⟩ v) :=
  ⟨rfl, rfl, rfl, by simp [World.setCell], fun k _ hk => by simp [World.setCell, Array.getElem?_modify, Ne.symm hk]⟩
theorem Ob.trans {r : Nat} {a b c : World} (h : Ob r a b) (h' : Ob r b c) : Ob r a c :=
  ⟨h'.os.trans h.os, h'.tape.trans h.tape, h'.output.trans h.output, Nat.le_trans h.size h'.size, fun k hk hne => (h'.block k (Nat.lt_of_lt_of_le hk h.size) hne).trans (h.block k hk hne)⟩
theorem Ob.below {r : Nat} {w a b : World} (hb : Below w.heap.size w a) (h : Ob r a b) (hr : w.heap.size ≤ r) : Below w.heap.size w b :=
  ⟨h.os.trans hb.os, h.tape.trans hb.tape, h.output.trans hb.output, Nat.le_trans hb.size h.size, fun k hk => (h.block k (Nat.lt_of_lt_of_le hk hb.size) (by omega)).trans (hb.block k hk)⟩
theorem cb_nil {W : World} {b : Nat} {t : TypeId} (hb : 2 < b) (h : W.heap[b]? = some (.cells nil7 t (0, 0))) : Cb W b :=
  ⟨hb, fun j hj => ⟨_, nil7_at h j hj⟩, fun j => nil7_froz h j⟩
theorem St.cb {W0 W : World} {b o : Nat} {c1 c2 c3 : Option (List Part)} (h : St W0 b o c1 c2 c3 W) (hc : Cb W0 b) : Cb W b :=
  ⟨hc.hb, fun j hj => by
    obtain ⟨u, hu⟩ := hc.hc j hj
    exact Option.isSome_iff_exists.1 (h.there j (by rw [hu]; rfl)), fun j => (h.froz j).trans (hc.hf j)⟩
end Go.Proofs.YtlpheplifjeffaaDoor
/- The contract of package calendar's parseFields at a text of one word that is a date. -/
namespace Go.Proofs.YtlpheplifjeffaaDoor
open Go.RowKit
def FldP (w : World) (c : Option Cal.C7) (e : Ending) (w' : World) : Prop :=
  ∃ S : Nat → Sl, e = .returned (.tuple #[aggC S, .bool c.isSome]) ∧ Below w.heap.size w w' ∧ ∀ x, c = some x → CalPin (fun _ => False) w' S x
theorem below7 {w W : World} (h : Below w.heap.size w W) (v0 v1 v2 v3 v4 v5 v6 : Value) : Below w.heap.size w (((((((W.setCell ⟨w.heap.size, 0, none⟩ v0).setCell ⟨w.heap.size, 1, none⟩ v1).setCell ⟨w.heap.size, 2, none⟩ v2).setCell ⟨w.heap.size, 3, none⟩ v3).setCell ⟨w.heap.size, 4, none⟩ v4).setCell ⟨w.heap.size, 5, none⟩ v5).setCell ⟨w.heap.size, 6, none⟩ v6) :=
  ((((((h.setCell (p := ⟨w.heap.size, 0, none⟩) (Nat.le_refl _) _).setCell (p := ⟨w.heap.size, 1, none⟩) (Nat.le_refl _) _).setCell (p := ⟨w.heap.size, 2, none⟩) (Nat.le_refl _) _).setCell (p := ⟨w.heap.size, 3, none⟩) (Nat.le_refl _) _).setCell (p := ⟨w.heap.size, 4, none⟩) (Nat.le_refl _) _).setCell (p := ⟨w.heap.size, 5, none⟩) (Nat.le_refl _) _).setCell (p := ⟨w.heap.size, 6, none⟩) (Nat.le_refl _) _
theorem ob7 (r : Nat) (W : World) (v0 v1 v2 v3 v4 v5 v6 : Value) : Ob r W (((((((W.setCell ⟨r, 0, none⟩ v0).setCell ⟨r, 1, none⟩ v1).setCell ⟨r, 2, none⟩ v2).setCell ⟨r, 3, none⟩ v3).setCell ⟨r, 4, none⟩ v4).setCell ⟨r, 5, none⟩ v5).setCell ⟨r, 6, none⟩ v6) :=
  ((((((ob_set r 0 W v0).trans (ob_set r 1 _ v1)).trans (ob_set r 2 _ v2)).trans (ob_set r 3 _ v3)).trans (ob_set r 4 _ v4)).trans (ob_set r 5 _ v5)).trans (ob_set r 6 _ v6)
theorem pins_set {r : Nat} {W V : World} {S : Nat → Sl} {c : Cal.C7} (h : CalPin (fun k => k = r) W S c) (ho : Ob r W V) : CalPin (fun _ => False) V S c :=
  ⟨(ho.pin h.p0 rfl).none, (ho.pin h.p1 rfl).none, (ho.pin h.p2 rfl).none, (ho.pin h.p3 rfl).none, (ho.pin h.p4 rfl).none, (ho.pin h.p5 rfl).none, (ho.pin h.p6 rfl).none⟩
theorem bdn {n : Nat} {w W : World} (h : Below n w W) (q : Nat) : Below n w (W.drewN q) := ⟨h.os, h.tape, h.output, h.size, h.block⟩
set_option maxRecDepth 100000 in
set_option maxHeartbeats 1000000 in
theorem fieldsD (s : ByteArray) (w : World) (hg : GlP w) (hs : s.size ≤ 100000) (hL : splitT s (str1 32) 3 = [s]) (hw : (pL pWds (splitT s (str1 44) 12)).isSome = false) (hd : Lib.contains s.data.toList [45] = true) (y mo d hh mi se : List Part)
    (hD : pD s = some (y, mo, d)) (hCl : pC ⟨#[48, 48, 58, 48, 48, 58, 48, 48]⟩ = some (hh, mi, se)) :
    Calls Tryd.prog 12 #[.string s] w (FldP w (some ⟨[], y, mo, d, hh, mi, se⟩)) := by
  have hB0 : Below w.heap.size w (w.alloc (.cells #[.slice none 0 0, .slice none 0 0, .slice none 0 0, .slice none 0 0, .slice none 0 0, .slice none 0 0, .slice none 0 0] 26)) := (Below.refl _ _).alloc (Nat.le_refl _) _
  have hg0 := hg.below hB0
  have hSp := split_any s (str1 32) 3 (w.alloc (.cells #[.slice none 0 0, .slice none 0 0, .slice none 0 0, .slice none 0 0, .slice none 0 0, .slice none 0 0, .slice none 0 0] 26)) hg0 hs (by decide) (by decide)
  rw [hL] at hSp
  go_enter Tryd.func12, Tryd.ntmps12
  go_wp2_with fail
  refine hSp.mono ?_
  rintro e w1 ⟨cap, rfl, hcap, hb1, hcells⟩
  have c1 : w1.cell? ⟨w.heap.size + 1, 0, none⟩ = some (.string s) := by simpa using hcells 0 s rfl
  have hb01 : Below w.heap.size w w1 := hB0.trans (hb1.mono (by simp))
  have hw1 : w.heap.size + 1 < w1.heap.size := cell_lt c1
  have kr1 : Hid (w1.heap[w.heap.size]? = some (.cells nil7 26 (0, 0))) := (hb1.block _ (by simp)).trans (heap_alloc_new _ _)
  have hg1 := hg.below hb01
  have hBb : Below w1.heap.size w1 (w1.alloc (.cells #[.slice none 0 0, .slice none 0 0, .slice none 0 0, .slice none 0 0, .slice none 0 0, .slice none 0 0, .slice none 0 0] 26)) := (Below.refl _ _).alloc (Nat.le_refl _) _
  have hLs := listW_any s _ (hg1.below hBb) hs
  rw [hw] at hLs
  clear hcells hSp hB0 hg0 hb1
  go_wp2_with fail
  refine hLs.mono ?_
  rintro e w2 ⟨sl, rfl, hb2, -⟩
  have c2 : w2.cell? ⟨w.heap.size + 1, 0, none⟩ = some (.string s) := by
    rw [hb2.cell (p := ⟨w.heap.size + 1, 0, none⟩) (by simp; omega), hBb.cell (p := ⟨w.heap.size + 1, 0, none⟩) hw1]; exact c1
  have hg2 := (hg1.below hBb).below hb2
  have kb : Hid (w2.heap[w1.heap.size]? = some (.cells nil7 26 (0, 0))) := (hb2.block _ (by simp)).trans (heap_alloc_new _ _)
  have kr : Hid (w2.heap[w.heap.size]? = some (.cells nil7 26 (0, 0))) := (hb2.block _ (by simp; omega)).trans ((hBb.block _ (by omega)).trans kr1.out)
  have hb12 : Below w.heap.size w w2 := hb01.trans ((hBb.trans (hb2.mono hBb.size)).mono hb01.size)
  have h2w : 2 < w.heap.size := by obtain ⟨m, hm⟩ := hg.mx; exact cell_lt hm
  obtain ⟨mx, hmx⟩ := hg2.mx
  have hCt := Tryd.strings_Contains s ⟨#[45]⟩ mx w2 (by omega) hmx
  rw [show (⟨#[45]⟩ : ByteArray).data.toList = [45] from rfl, hd] at hCt
  clear hLs
  go_wp2_with fail
  refine hCt.mono ?_
  rintro e w3 ⟨rfl, rfl⟩
  clear hCt
  go_wp2_with fail
  go_quiet (fail)
  go_wp2_with fail
  all_goals
    have kb' : (w3.drewN nq).heap[w1.heap.size]? = some (.cells nil7 26 (0, 0)) := kb.out
    have kr' : (w3.drewN nq).heap[w.heap.size]? = some (.cells nil7 26 (0, 0)) := kr.out
    have hcb := cb_nil (by omega) kb'
    have hg3 : GlP (w3.drewN nq) := hg2.below (bdn (Below.refl _ _) _)
    have hb13 : Below w.heap.size w (w3.drewN nq) := bdn hb12 _
    have hpd := parseDate_any s w1.heap.size (w3.drewN nq) hg3 hs hcb
    rw [hD] at hpd
    refine hpd.mono ?_
    rintro e w4 ⟨rfl, a1, a2, a3, hS1, ht1⟩
    obtain ⟨rfl, rfl, rfl⟩ := ht1 y mo d rfl
    have hpc := parseClock_any ⟨#[48, 48, 58, 48, 48, 58, 48, 48]⟩ w1.heap.size w4 (hS1.ob.glp hg3 (by omega)) (by decide) (hS1.cb hcb)
    rw [hCl] at hpc
    have X1 : Hid (St (w3.drewN nq) w1.heap.size 1 (some y) (some mo) (some d) w4 ∧ (w3.drewN nq).heap[w1.heap.size]? = some (.cells nil7 26 (0, 0)) ∧ (w3.drewN nq).heap[w.heap.size]? = some (.cells nil7 26 (0, 0)) ∧ Below w.heap.size w (w3.drewN nq)) := ⟨hS1, kb', kr', hb13⟩
    clear hpd ht1 hS1 kb' kr' hb13 hg3 hcb
    go_wp2_with fail
    refine hpc.mono ?_
    rintro e w5 ⟨rfl, a4, a5, a6, hS2, ht2⟩
    obtain ⟨rfl, rfl, rfl⟩ := ht2 hh mi se rfl
    clear ht2 hpc
    obtain ⟨hS1, kb', kr', hb13⟩ := X1.out
    obtain ⟨s1, e1, p1⟩ := hS1.p1 _ rfl
    obtain ⟨s2, e2, p2⟩ := hS1.p2 _ rfl
    obtain ⟨s3, e3, p3⟩ := hS1.p3 _ rfl
    obtain ⟨s4, f4, p4⟩ := hS2.p1 _ rfl
    obtain ⟨s5, f5, p5⟩ := hS2.p2 _ rfl
    obtain ⟨s6, f6, p6⟩ := hS2.p3 _ rfl
    have f0 : w5.cell? ⟨w1.heap.size, 0, none⟩ = some (.slice none 0 0) := (hS2.rest 0 (by decide) (by decide) (by decide)).trans ((hS1.rest 0 (by decide) (by decide) (by decide)).trans (nil7_at kb' 0 (by decide)))
    have f1 := (hS2.rest 1 (by decide) (by decide) (by decide)).trans e1
    have f2 := (hS2.rest 2 (by decide) (by decide) (by decide)).trans e2
    have f3 := (hS2.rest 3 (by decide) (by decide) (by decide)).trans e3
    have hrl : w.heap.size < (w3.drewN nq).heap.size := cell_lt (nil7_at kr' 0 (by decide))
    have hrm : w.heap.size < w4.heap.size := Nat.lt_of_lt_of_le hrl hS1.size
    have hrn : w.heap.size ≠ w1.heap.size := by omega
    have kr4 : w5.heap[w.heap.size]? = some (.cells nil7 26 (0, 0)) := (hS2.block _ hrm hrn).trans ((hS1.block _ hrl hrn).trans kr')
    have Y : Hid (CalPin (fun k => k = w.heap.size) w5 (fun j => [(none, 0, 0), s1, s2, s3, s4, s5, s6].getD j (none, 0, 0)) ⟨[], y, mo, d, hh, mi, se⟩) :=
      ⟨⟨none, 0, rfl, by simp, fun i q h => by simp at h⟩, pin_off (hS2.ob.pin p1 rfl) kr4, pin_off (hS2.ob.pin p2 rfl) kr4, pin_off (hS2.ob.pin p3 rfl) kr4, pin_off p4 kr4, pin_off p5 kr4, pin_off p6 kr4⟩
    have Z : Hid (Below w.heap.size w w5) := by
      have h1 := hS1.ob.below hb13 (by omega)
      exact hS2.ob.below h1 (by omega)
    have g0 := nil7_at kr4 0 (by decide)
    have g1 := nil7_at kr4 1 (by decide)
    have g2 := nil7_at kr4 2 (by decide)
    have g3 := nil7_at kr4 3 (by decide)
    have g4 := nil7_at kr4 4 (by decide)
    have g5 := nil7_at kr4 5 (by decide)
    have g6 := nil7_at kr4 6 (by decide)
    have r0 := nil7_froz kr4 0
    have r1 := nil7_froz kr4 1
    have r2 := nil7_froz kr4 2
    have r3 := nil7_froz kr4 3
    have r4 := nil7_froz kr4 4
    have r5 := nil7_froz kr4 5
    have r6 := nil7_froz kr4 6
    clear hS1 hS2 kb' kr' hb13 e1 e2 e3 p1 p2 p3 p4 p5 p6 X1 kr4
    go_wp2_with fail
    refine bodyPost_ret (v := .tuple #[aggC (fun j => [(none, 0, 0), s1, s2, s3, s4, s5, s6].getD j (none, 0, 0)), .bool true]) (by simp [results, Tryd.results12, go_sem, g0, g1, g2, g3, g4, g5, g6]) rfl ⟨_, rfl, ?_, fun x hx => ?_⟩
    · exact below7 Z.out _ _ _ _ _ _ _
    · cases hx
      exact pins_set Y.out (ob7 _ _ _ _ _ _ _ _ _)
end Go.Proofs.YtlpheplifjeffaaDoor
/- The contract of package calendar's Parse, where parseFields tells an expression. -/
namespace Go.Proofs.YtlpheplifjeffaaDoor
open Go.RowKit
def ParP (w : World) (x : Cal.C7) (e : Ending) (w' : World) : Prop :=
  ∃ S : Nat → Sl, e = .returned (.tuple #[aggC S, .int .i64 0]) ∧ Below w.heap.size w w' ∧ CalPin (fun _ => False) w' S x
set_option maxRecDepth 100000 in
set_option maxHeartbeats 1000000 in
theorem parse_yes (s : ByteArray) (w : World) (hg : GlP w) (x : Cal.C7) (hI : isB x = true) (hF : ∀ w, GlP w → Calls Tryd.prog 12 #[.string (spell s)] w (FldP w (some x))) :
    Calls Tryd.prog 7 #[.string s] w (ParP w x) := by
  have hB0 : Below w.heap.size w (w.alloc (.cells nil7 26)) := (Below.refl _ _).alloc (Nat.le_refl _) _
  have hFa := hF _ (hg.below hB0)
  go_enter Tryd.func7, Tryd.ntmps7
  go_wp2_with (go_at_call 13; refine (spell_any s _).mono ?_; rintro e w' ⟨rfl, rfl⟩)
  refine hFa.mono ?_
  rintro e w1 ⟨S, rfl, hb1, hp⟩
  have kr : Hid (w1.heap[w.heap.size]? = some (.cells nil7 26 (0, 0))) := (hb1.block _ (by simp)).trans (heap_alloc_new _ _)
  have hp1 := hp x rfl
  have hb01 : Below w.heap.size w w1 := hB0.trans (hb1.mono (by simp))
  have hw1 : w.heap.size < w1.heap.size := by have := hb1.size; simp at this; omega
  have hBb : Below w1.heap.size w1 (w1.alloc (.cells #[slv (S 0), slv (S 1), slv (S 2), slv (S 3), slv (S 4), slv (S 5), slv (S 6)] 26)) := (Below.refl _ _).alloc (Nat.le_refl _) _
  have hIs := isC_any S x (w1.alloc (.cells #[slv (S 0), slv (S 1), slv (S 2), slv (S 3), slv (S 4), slv (S 5), slv (S 6)] 26)) ⟨hp1.p0.below hBb, hp1.p1.below hBb, hp1.p2.below hBb, hp1.p3.below hBb, hp1.p4.below hBb, hp1.p5.below hBb, hp1.p6.below hBb⟩ ((hg.below hb01).below hBb).gl
  rw [hI] at hIs
  clear hFa hp hF hB0 hb1
  simp only [Option.isSome_some]
  go_wp2_with fail
  refine hIs.mono ?_
  rintro e w2 ⟨rfl, hb2⟩
  have kr2 : w2.heap[w.heap.size]? = some (.cells nil7 26 (0, 0)) := (hb2.block _ (by simp; omega)).trans ((hBb.block _ hw1).trans kr.out)
  have hbx : Below w.heap.size w w2 := hb01.trans ((hBb.trans (hb2.mono hBb.size)).mono hb01.size)
  have hY : CalPin (fun k => k = w.heap.size) w2 S x := ⟨pin_off ((hp1.p0.below hBb).below hb2) kr2, pin_off ((hp1.p1.below hBb).below hb2) kr2, pin_off ((hp1.p2.below hBb).below hb2) kr2, pin_off ((hp1.p3.below hBb).below hb2) kr2, pin_off ((hp1.p4.below hBb).below hb2) kr2, pin_off ((hp1.p5.below hBb).below hb2) kr2, pin_off ((hp1.p6.below hBb).below hb2) kr2⟩
  have f0 : w2.cell? ⟨w1.heap.size, 0, none⟩ = some (slv (S 0)) := (hb2.cell (p := ⟨w1.heap.size, 0, none⟩) (by simp)).trans (cell_at rfl rfl)
  have f1 : w2.cell? ⟨w1.heap.size, 1, none⟩ = some (slv (S 1)) := (hb2.cell (p := ⟨w1.heap.size, 1, none⟩) (by simp)).trans (cell_at rfl rfl)
  have f2 : w2.cell? ⟨w1.heap.size, 2, none⟩ = some (slv (S 2)) := (hb2.cell (p := ⟨w1.heap.size, 2, none⟩) (by simp)).trans (cell_at rfl rfl)
  have f3 : w2.cell? ⟨w1.heap.size, 3, none⟩ = some (slv (S 3)) := (hb2.cell (p := ⟨w1.heap.size, 3, none⟩) (by simp)).trans (cell_at rfl rfl)
  have f4 : w2.cell? ⟨w1.heap.size, 4, none⟩ = some (slv (S 4)) := (hb2.cell (p := ⟨w1.heap.size, 4, none⟩) (by simp)).trans (cell_at rfl rfl)
  have f5 : w2.cell? ⟨w1.heap.size, 5, none⟩ = some (slv (S 5)) := (hb2.cell (p := ⟨w1.heap.size, 5, none⟩) (by simp)).trans (cell_at rfl rfl)
  have f6 : w2.cell? ⟨w1.heap.size, 6, none⟩ = some (slv (S 6)) := (hb2.cell (p := ⟨w1.heap.size, 6, none⟩) (by simp)).trans (cell_at rfl rfl)
  have g0 := nil7_at kr2 0 (by decide)
  have g1 := nil7_at kr2 1 (by decide)
  have g2 := nil7_at kr2 2 (by decide)
  have g3 := nil7_at kr2 3 (by decide)
  have g4 := nil7_at kr2 4 (by decide)
  have g5 := nil7_at kr2 5 (by decide)
  have g6 := nil7_at kr2 6 (by decide)
  have r0 := nil7_froz kr2 0
  have r1 := nil7_froz kr2 1
  have r2 := nil7_froz kr2 2
  have r3 := nil7_froz kr2 3
  have r4 := nil7_froz kr2 4
  have r5 := nil7_froz kr2 5
  have r6 := nil7_froz kr2 6
  have Y : Hid (CalPin (fun k => k = w.heap.size) w2 S x) := hY
  have Z : Hid (Below w.heap.size w w2) := hbx
  clear hIs hY hbx hp1 hb2 hBb hb01 kr kr2
  go_wp2_with fail
  refine bodyPost_ret (v := (.tuple #[aggC S, .int .i64 0])) (by simp [results, Tryd.results7, go_sem, g0, g1, g2, g3, g4, g5, g6]) rfl ⟨_, rfl, below7 Z.out _ _ _ _ _ _ _, pins_set Y.out (ob7 _ _ _ _ _ _ _ _ _)⟩
set_option maxRecDepth 100000 in
set_option maxHeartbeats 1000000 in
theorem parse_no (s : ByteArray) (w : World) (hg : GlP w) (x : Cal.C7) (hI : isB x = false) (hF : ∀ w, GlP w → Calls Tryd.prog 12 #[.string (spell s)] w (FldP w (some x))) :
    Calls Tryd.prog 7 #[.string s] w fun e w' => e = .returned (.tuple #[aggC fun _ => (none, 0, 0), .int .i64 30]) ∧ Below w.heap.size w w' := by
  have hB0 : Below w.heap.size w (w.alloc (.cells nil7 26)) := (Below.refl _ _).alloc (Nat.le_refl _) _
  have hFa := hF _ (hg.below hB0)
  go_enter Tryd.func7, Tryd.ntmps7
  go_wp2_with (go_at_call 13; refine (spell_any s _).mono ?_; rintro e w' ⟨rfl, rfl⟩)
  refine hFa.mono ?_
  rintro e w1 ⟨S, rfl, hb1, hp⟩
  have kr : Hid (w1.heap[w.heap.size]? = some (.cells nil7 26 (0, 0))) := (hb1.block _ (by simp)).trans (heap_alloc_new _ _)
  have hp1 := hp x rfl
  have hb01 : Below w.heap.size w w1 := hB0.trans (hb1.mono (by simp))
  have hw1 : w.heap.size < w1.heap.size := by have := hb1.size; simp at this; omega
  have hBb : Below w1.heap.size w1 (w1.alloc (.cells #[slv (S 0), slv (S 1), slv (S 2), slv (S 3), slv (S 4), slv (S 5), slv (S 6)] 26)) := (Below.refl _ _).alloc (Nat.le_refl _) _
  have hIs := isC_any S x (w1.alloc (.cells #[slv (S 0), slv (S 1), slv (S 2), slv (S 3), slv (S 4), slv (S 5), slv (S 6)] 26)) ⟨hp1.p0.below hBb, hp1.p1.below hBb, hp1.p2.below hBb, hp1.p3.below hBb, hp1.p4.below hBb, hp1.p5.below hBb, hp1.p6.below hBb⟩ ((hg.below hb01).below hBb).gl
  rw [hI] at hIs
  clear hFa hp hF hB0 hb1
  simp only [Option.isSome_some]
  go_wp2_with fail
  refine hIs.mono ?_
  rintro e w2 ⟨rfl, hb2⟩
  have kr2 : w2.heap[w.heap.size]? = some (.cells nil7 26 (0, 0)) := (hb2.block _ (by simp; omega)).trans ((hBb.block _ hw1).trans kr.out)
  have hbx : Below w.heap.size w w2 := hb01.trans ((hBb.trans (hb2.mono hBb.size)).mono hb01.size)
  have f0 : w2.cell? ⟨w1.heap.size, 0, none⟩ = some (slv (S 0)) := (hb2.cell (p := ⟨w1.heap.size, 0, none⟩) (by simp)).trans (cell_at rfl rfl)
  have f1 : w2.cell? ⟨w1.heap.size, 1, none⟩ = some (slv (S 1)) := (hb2.cell (p := ⟨w1.heap.size, 1, none⟩) (by simp)).trans (cell_at rfl rfl)
  have f2 : w2.cell? ⟨w1.heap.size, 2, none⟩ = some (slv (S 2)) := (hb2.cell (p := ⟨w1.heap.size, 2, none⟩) (by simp)).trans (cell_at rfl rfl)
  have f3 : w2.cell? ⟨w1.heap.size, 3, none⟩ = some (slv (S 3)) := (hb2.cell (p := ⟨w1.heap.size, 3, none⟩) (by simp)).trans (cell_at rfl rfl)
  have f4 : w2.cell? ⟨w1.heap.size, 4, none⟩ = some (slv (S 4)) := (hb2.cell (p := ⟨w1.heap.size, 4, none⟩) (by simp)).trans (cell_at rfl rfl)
  have f5 : w2.cell? ⟨w1.heap.size, 5, none⟩ = some (slv (S 5)) := (hb2.cell (p := ⟨w1.heap.size, 5, none⟩) (by simp)).trans (cell_at rfl rfl)
  have f6 : w2.cell? ⟨w1.heap.size, 6, none⟩ = some (slv (S 6)) := (hb2.cell (p := ⟨w1.heap.size, 6, none⟩) (by simp)).trans (cell_at rfl rfl)
  have g0 := nil7_at kr2 0 (by decide)
  have g1 := nil7_at kr2 1 (by decide)
  have g2 := nil7_at kr2 2 (by decide)
  have g3 := nil7_at kr2 3 (by decide)
  have g4 := nil7_at kr2 4 (by decide)
  have g5 := nil7_at kr2 5 (by decide)
  have g6 := nil7_at kr2 6 (by decide)
  have r0 := nil7_froz kr2 0
  have r1 := nil7_froz kr2 1
  have r2 := nil7_froz kr2 2
  have r3 := nil7_froz kr2 3
  have r4 := nil7_froz kr2 4
  have r5 := nil7_froz kr2 5
  have r6 := nil7_froz kr2 6
  have Z : Hid (Below w.heap.size w w2) := hbx
  clear hIs hbx hp1 hb2 hBb hb01 kr kr2
  go_wp2_with fail
  refine bodyPost_ret (v := (.tuple #[aggC fun _ => (none, 0, 0), .int .i64 30])) (by simp [results, Tryd.results7, go_sem, g0, g1, g2, g3, g4, g5, g6]) rfl ⟨rfl, below7 Z.out _ _ _ _ _ _ _⟩
end Go.Proofs.YtlpheplifjeffaaDoor
