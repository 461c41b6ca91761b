/- The contract of package tree's isPath. -/
import Derived.Test.YtnniahlacfflmaaDoorTA
namespace Go.Proofs.YtnniahlacfflmaaDoor
open Go.RowKit Go.Shelf
attribute [local go_sem] Oper.semAt_some
def Mx (w : World) : Prop := ∃ m, w.cell? ⟨0, 0, none⟩ = some (.int .i64 m)
theorem Mx.mv {w w' : World} {E : Nat → Prop} (h : Mx w) (m : Mv E w w') (hE : ¬ E 0) : Mx w' := by
  obtain ⟨x, hx⟩ := h
  exact ⟨x, m.cell (a := ⟨0, 0, none⟩) hE hx⟩
set_option maxHeartbeats 1000000 in
theorem splitSeq0_any (s t : ByteArray) (w : World) :
    Calls Tryd.prog 51 #[.string s, .string t, .int .i64 0] w fun e w' => e = .returned (.func (.func 59) #[] #[.pointer (some ⟨w.heap.size + 1, 0, none⟩), .pointer (some ⟨w.heap.size, 0, none⟩), .pointer (some ⟨w.heap.size + 2, 0, none⟩)]) ∧ w' = ((w.alloc (.cells #[.string s] 9)).alloc (.cells #[.string t] 9)).alloc (.cells #[.int .i64 0] 3) := by
  go_enter Tryd.func51, Tryd.ntmps51
  go_wp2_with fail
  go_ret
  exact ⟨rfl, rfl⟩
set_option maxHeartbeats 1000000 in
theorem splitSeq_any (s t : ByteArray) (w : World) :
    Calls Tryd.prog 43 #[.string s, .string t] w fun e w' => e = .returned (.func (.func 59) #[] #[.pointer (some ⟨w.heap.size + 1, 0, none⟩), .pointer (some ⟨w.heap.size, 0, none⟩), .pointer (some ⟨w.heap.size + 2, 0, none⟩)]) ∧ w' = ((w.alloc (.cells #[.string s] 9)).alloc (.cells #[.string t] 9)).alloc (.cells #[.int .i64 0] 3) := by
  go_enter Tryd.func43, Tryd.ntmps43
  go_wp2_with fail
  refine (splitSeq0_any s t w).mono ?_
  rintro e w1 ⟨rfl, rfl⟩
  go_wp2_with fail
  go_ret
  exact ⟨rfl, rfl⟩
/-- The result's cell and the count's. -/
structure ResC (s c : Nat) (b : Bool) (n : Nat) (W : World) : Prop where
  r : Cl s (.bool b) W
  c : Cl c (.int .i64 n) W
theorem ResC.mv {s c : Nat} {b : Bool} {n : Nat} {W V : World} {E : Nat → Prop} (h : ResC s c b n W) (m : Mv E W V) (h1 : ¬ E s) (h2 : ¬ E c) : ResC s c b n V := ⟨h.r.mv m h1, h.c.mv m h2⟩
def PJ (s c : Nat) (a : Bool) (rest : List L) (E : Nat → Prop) (W : World) : Prop := (∀ k, E k ↔ (k = s ∨ k = c)) ∧ ∃ n : Nat, n ≤ 9 ∧ Hid (a = okAll n rest) ∧ ResC s c false n W
def PX (s c : Nat) (a : Bool) (x : Code) (E : Nat → Prop) (W : World) : Prop := (∀ k, E k ↔ (k = s ∨ k = c)) ∧ x = Code.ret ∧ Hid (a = false) ∧ ∃ n : Nat, ResC s c false n W
theorem PJ.ter (B s c : Nat) (a : Bool) : Ter B (PJ s c a) :=
  ⟨fun r E W V h m => by
    obtain ⟨hE, n, h0, h1, h2⟩ := h
    exact ⟨hE, n, h0, h1, h2.mv m (fun q => q.1 ((hE s).2 (.inl rfl))) (fun q => q.1 ((hE c).2 (.inr rfl)))⟩,
   fun r E W h k hk => by
    obtain ⟨hE, n, _, _, h2⟩ := h
    rcases (hE k).1 hk with rfl | rfl
    · exact h2.r.lt
    · exact h2.c.lt⟩
theorem PX.ter (B s c : Nat) (a : Bool) : Ter B (PX s c a) :=
  ⟨fun r E W V h m => by
    obtain ⟨hE, h0, h1, n, h2⟩ := h
    exact ⟨hE, h0, h1, n, h2.mv m (fun q => q.1 ((hE s).2 (.inl rfl))) (fun q => q.1 ((hE c).2 (.inr rfl)))⟩,
   fun r E W h k hk => by
    obtain ⟨hE, _, _, n, h2⟩ := h
    rcases (hE k).1 hk with rfl | rfl
    · exact h2.r.lt
    · exact h2.c.lt⟩
set_option maxHeartbeats 1000000 in
theorem isPath_root (w : World) : Calls Tryd.prog 28 #[.string rootS] w fun e w' => e = .returned (.bool (isP rootS)) ∧ Below w.heap.size w w' := by
  unfold rootS
  go_enter Tryd.func28, Tryd.ntmps28
  go_wp2_with fail
  refine bodyPost_ret (v := .bool true) ?_ rfl ?_
  · simp [results, Tryd.results28, go_sem]
  · exact ⟨rfl, (Below.refl _ w).alloc (Nat.le_refl _) _⟩
set_option maxHeartbeats 1000000 in
theorem isPath_bad (s : ByteArray) (w : World) (hr : s ≠ rootS) (hb : ¬ hd (byt s)) : Calls Tryd.prog 28 #[.string s] w fun e w' => e = .returned (.bool (isP s)) ∧ Below w.heap.size w w' := by
  have hp : isP s = false := by
    cases h : isP s with
    | false => rfl
    | true => exact absurd (isP_hd h) hb
  have t0 : (s.toList == [47]) = false := by
    cases h : (s.toList == [47]) with
    | false => rfl
    | true =>
      have : s.toList = [47] := by simpa using h
      rw [Lib.toList_data] at this
      exact absurd (byt_root.1 this) hr
  have hcut := Tryd.strings_CutPrefix s ⟨#[47]⟩
  have hh : Lib.hasPrefix s.data.toList (⟨#[47]⟩ : ByteArray).data.toList = false := by
    show List.isPrefixOf [47] (byt s) = false
    cases e : byt s with
    | nil => rfl
    | cons c r =>
      rw [e] at hb
      have : c ≠ 47 := fun h => hb (by simp [hd, h])
      simp [List.isPrefixOf, Ne.symm this]
  rw [hh] at hcut
  rw [hp]
  have hcH := hidP hcut
  clear hcut hh hp hr hb
  go_enter Tryd.func28, Tryd.ntmps28
  go_wp2_with fail
  refine (hcH.out _).mono ?_
  rintro e w2 ⟨rfl, rfl⟩
  go_wp2_with fail
  refine bodyPost_ret (v := .bool false) ?_ rfl ?_
  · simp [results, Tryd.results28, go_sem]
  · exact ⟨rfl, (Below.refl _ w).alloc (Nat.le_refl _) _⟩
set_option maxRecDepth 100000 in
set_option maxHeartbeats 4000000 in
theorem isPath_hd (s : ByteArray) (w : World) (hg : Mx w) (hr : s ≠ rootS) (hh : hd (byt s)) (hs : s.size ≤ 100000) : Calls Tryd.prog 28 #[.string s] w fun e w' => e = .returned (.bool (isP s)) ∧ Below w.heap.size w w' := by
  obtain ⟨mx, hmx⟩ := hg
  have h1w : 0 < w.heap.size := cell_lt hmx
  obtain ⟨r, hsr⟩ := hd_cons hh
  obtain ⟨R, rfl, hRz, hRe⟩ := letters r
  have hp : isP s = okAll 0 (pieces R.data.toList) := by
    unfold isP
    rw [hsr]
    have : R.data.toList ≠ [] := fun e => hr (byt_root.1 (by rw [hsr, e]))
    have h2 : (R.data.toList == []) = false := by simpa using this
    show ((47 : UInt8) == 47 && (R.data.toList == [] || okAll 0 (pieces R.data.toList))) = _
    rw [h2]; rfl
  have hz : R.size ≤ 2000000 := by
    have := congrArg List.length hsr
    rw [byt_len, List.length_cons, size_list] at this
    omega
  have t0 : (s.toList == [47]) = false := by
    cases h : (s.toList == [47]) with
    | false => rfl
    | true =>
      have : s.toList = [47] := by simpa using h
      rw [Lib.toList_data] at this
      exact absurd (byt_root.1 this) hr
  have hcut := Tryd.strings_CutPrefix s ⟨#[47]⟩
  have hpre : Lib.hasPrefix s.data.toList (⟨#[47]⟩ : ByteArray).data.toList = true := by
    show List.isPrefixOf [47] (byt s) = true
    rw [hsr]; simp [List.isPrefixOf]
  have htr : (⟨(Lib.trimPrefix s.data.toList (⟨#[47]⟩ : ByteArray).data.toList).toArray⟩ : ByteArray) = R := by
    unfold Lib.trimPrefix
    rw [hpre, if_pos rfl]
    show (⟨(List.drop 1 (byt s)).toArray⟩ : ByteArray) = R
    rw [hsr, List.drop_succ_cons, List.drop_zero]
  rw [hpre, htr] at hcut
  rw [hp]
  have hcH := hidP hcut
  clear hcut hpre htr hp hr hh hsr hRz hRe hs
  refine (callsIn_wide (n := 5)).1 ?_
  refine callsIn_of_wp_marks Tryd.func28 rfl trivial ?_ rfl
  simp only [Tryd.ntmps28, List.size_toArray, List.length_cons, List.length_nil, Nat.reduceAdd, Nat.reduceSub, Array.replicate_succ, Array.replicate_zero, List.push_toArray, List.append_toArray, List.nil_append, List.cons_append]
  gi_wp2_with fail
  refine ⟨trivial, (callsIn_wide.2 (hcH.out _)).mono ?_⟩
  rintro e w2 ⟨rfl, rfl⟩
  gi_wp2_with fail
  obtain ⟨W0, hW0⟩ : ∃ W0, ((w.alloc (.cells #[.bool false] 4)).alloc (.cells #[.int .i64 0] 3)) = W0 := ⟨_, rfl⟩
  rw [hW0]
  have mB : Below w.heap.size w W0 := by rw [← hW0]; exact ((Below.refl _ w).alloc (Nat.le_refl _) _).alloc (by simp) _
  have hs0 : W0.heap.size = w.heap.size + 2 := by rw [← hW0]; simp
  have hB : ResC w.heap.size (w.heap.size + 1) false 0 W0 := by
    rw [← hW0]
    refine ⟨⟨?_, ?_⟩, ⟨cell_at (by simp) rfl, froz_new (by simp)⟩⟩
    · rw [World.cell?_alloc_lt _ _ _ (by simp)]; exact cell_at rfl rfl
    · rw [World.frozen?_of_block (Below.heap_alloc _ _ _ (by simp))]; exact froz_new rfl
  refine ⟨trivial, (callsIn_wide.2 (splitSeq_any R ⟨#[47]⟩ W0)).mono ?_⟩
  rintro e W1 ⟨rfl, hW1⟩
  have m1 : ∀ E : Nat → Prop, Mv E W0 W1 := fun E => by rw [hW1]; exact ((Mv.alloc _ _ _).trans' (Mv.alloc _ _ _)).trans' (Mv.alloc _ _ _)
  have hs1 : W1.heap.size = W0.heap.size + 3 := by rw [hW1]; simp
  have hB1 : ResC w.heap.size (w.heap.size + 1) false 0 W1 := hB.mv (m1 (fun _ => False)) (fun h => h) (fun h => h)
  have c0 : W1.cell? ⟨W0.heap.size, 0, none⟩ = some (.string R) := by
    rw [hW1, World.cell?_alloc_lt _ _ _ (by simp; omega), World.cell?_alloc_lt _ _ _ (by simp)]; exact cell_at rfl rfl
  have z0 : W1.frozen? ⟨W0.heap.size, 0, none⟩ = false := by
    rw [hW1, World.frozen?_of_block (Below.heap_alloc _ _ _ (by simp; omega)), World.frozen?_of_block (Below.heap_alloc _ _ _ (by simp))]; exact World.frozen?_alloc_new _ _ _ _
  have c1 : W1.cell? ⟨W0.heap.size + 1, 0, none⟩ = some (.string ⟨#[47]⟩) := by
    rw [hW1, World.cell?_alloc_lt _ _ _ (by simp)]; exact cell_at (by simp) rfl
  have c3 : W1.cell? ⟨W0.heap.size + 2, 0, none⟩ = some (.int .i64 0) := by
    rw [hW1]; exact cell_at (by simp) rfl
  obtain ⟨E, hE⟩ : ∃ E : Nat → Prop, ∀ k, E k ↔ (k = w.heap.size ∨ k = w.heap.size + 1) := ⟨_, fun _ => Iff.rfl⟩
  have nE : ∀ {k}, k ≠ w.heap.size → k ≠ w.heap.size + 1 → ¬ E k := fun {k} h1 h2 q => by rcases (hE k).1 q with e | e; exact h1 e; exact h2 e
  have cm : W1.cell? ⟨0, 0, none⟩ = some (.int .i64 mx) := (m1 (fun _ => False)).cell (fun h => h) ((mB.cell (p := ⟨0, 0, none⟩) h1w).trans hmx)
  clear hW1
  have hrow := split1_row R W0.heap.size (W0.heap.size + 1) (W0.heap.size + 2) W0.heap.size mx E W1 hz (Nat.le_refl _) c0 z0 (nE (by omega) (by omega)) c1 (nE (by omega) (by omega)) (by omega) c3 (nE (by omega) (by omega)) (by omega) cm (nE (by omega) (by omega)) (by omega)
  have hrow' : RowB Tryd.prog 59 #[.pointer (some ⟨w.heap.size + 2 + 1, 0, none⟩), .pointer (some ⟨w.heap.size + 2, 0, none⟩), .pointer (some ⟨w.heap.size + 2 + 2, 0, none⟩)] encS (pieces R.data.toList) (w.heap.size + 2) W0.heap.size E W1 := by
    rw [← hs0]; exact hrow
  rw [hs0]
  clear hW0 hcH
  gi_wp2_with fail
  have tI := PJ.ter W0.heap.size w.heap.size (w.heap.size + 1) (okAll 0 (pieces R.data.toList))
  have tX := PX.ter W0.heap.size w.heap.size (w.heap.size + 1) (okAll 0 (pieces R.data.toList))
  refine loop_outB (gf := 59) (lb := #[.pointer (some ⟨w.heap.size + 2 + 1, 0, none⟩), .pointer (some ⟨w.heap.size + 2, 0, none⟩), .pointer (some ⟨w.heap.size + 2 + 2, 0, none⟩)]) rfl (enters_of Tryd.func59 (by kernel_rfl) rfl) W0 (m1 E) (by omega) hrow' (fun _ => rfl) _ _ tI tX ⟨hE, 0, by omega, rfl, hB1⟩ ?round ?done ?stop
  case round =>
    rintro l1 hl1 x rest E2 U hi hm hg hEl hrec
    obtain ⟨X, rfl, _, hXe⟩ := letters x
    simp only [encS, hXe]
    gi_wp2
    refine ⟨Mv.refl _ _, fun U2 tw => ?_⟩
    obtain ⟨⟨hE2, n, hn9, hq, hb2⟩, hm2⟩ := tw.go tI hi (Mv.refl _ _) hm (Nat.le_refl _) (by omega) hEl
    have k0 := hb2.r.c
    have k1 := hb2.r.f
    have k2 := hb2.c.c
    have k3 := hb2.c.f
    have hne : w.heap.size ≠ w.heap.size + 1 := by omega
    have hb3 : ResC w.heap.size (w.heap.size + 1) false (n + 1) (U2.setCell ⟨w.heap.size + 1, 0, none⟩ (.int .i64 ((n : Int) + 1))) := ⟨hb2.r.oth hne _, by have := hb2.c.set (.int .i64 ((n : Int) + 1)); exact this⟩
    have hm3 : Mv E2 U2 (U2.setCell ⟨w.heap.size + 1, 0, none⟩ (.int .i64 ((n : Int) + 1))) := Mv.set1 ((hE2 _).2 (.inr rfl)) _
    have hb4 : ResC w.heap.size (w.heap.size + 1) false (n + 1) ((U2.setCell ⟨w.heap.size + 1, 0, none⟩ (.int .i64 ((n : Int) + 1))).setCell ⟨w.heap.size, 0, none⟩ (.bool false)) := ⟨hb3.r.set _, hb3.c.oth (Ne.symm hne) _⟩
    have hm4 : Mv E2 U2 ((U2.setCell ⟨w.heap.size + 1, 0, none⟩ (.int .i64 ((n : Int) + 1))).setCell ⟨w.heap.size, 0, none⟩ (.bool false)) := hm3.trans' (Mv.set1 ((hE2 _).2 (.inl rfl)) _)
    have hq' : Hid (okAll 0 (pieces R.data.toList) = (decide (n < 8) && (okp X.data.toList && okAll (n + 1) rest))) := hq
    obtain ⟨V, hV⟩ : ∃ V, U2.setCell ⟨w.heap.size + 1, 0, none⟩ (.int .i64 ((n : Int) + 1)) = V := ⟨_, rfl⟩
    rw [hV] at hb3 hm3 hb4 hm4
    have j0 := hb3.r.c
    have j1 := hb3.r.f
    have j2 := hb3.c.c
    have hip := hidP (isPart_any X V)
    have hfin := hidP (And.intro hb3 (And.intro hm3 (And.intro hb4 (And.intro hm4 hE2))))
    obtain ⟨q, hqn⟩ : ∃ q : Int, (n : Int) + 1 = q := ⟨_, rfl⟩
    have hwrap : IntKind.i64.wrap q = q := by rw [← hqn]; exact wrap_small _ (by omega) (by omega)
    have j2 : V.cell? ⟨w.heap.size + 1, 0, none⟩ = some (.int .i64 q) := by rw [← hqn]; exact j2
    rw [hqn] at hV
    clear hi hm hrec hq hb2 hb3 hm3 hb4 hm4 hE2
    by_cases hn8 : n < 8
    · have hq8 : ¬ (8 : Int) < q := by omega
      cases hok : okp X.data.toList with
      | true =>
        have hR : Hid (okAll 0 (pieces R.data.toList) = okAll (n + 1) rest) := by
          show _ = _
          rw [hq'.out, hok, decide_eq_true hn8]; rfl
        rw [hok] at hip
        gi_wp2_with (first | rw [hqn] | rw [hV])
        refine ⟨trivial, (callsIn_wide.2 hip.out).mono ?_⟩
        rintro e w2 ⟨rfl, rfl⟩
        gi_wp2_with fail
        exact ⟨hfin.out.2.1, E2, Gr.refl _ _, hfin.out.2.2.2.2, n + 1, by omega, hR, hfin.out.1⟩
      | false =>
        have hR : Hid (okAll 0 (pieces R.data.toList) = false) := by
          show _ = _
          rw [hq'.out, hok, decide_eq_true hn8]; rfl
        rw [hok] at hip
        gi_wp2_with (first | rw [hqn] | rw [hV])
        refine ⟨trivial, (callsIn_wide.2 hip.out).mono ?_⟩
        rintro e w2 ⟨rfl, rfl⟩
        gi_wp2_with fail
        exact ⟨hfin.out.2.2.2.1, E2, Gr.refl _ _, hfin.out.2.2.2.2, rfl, hR, n + 1, hfin.out.2.2.1⟩
    · have hq8 : (8 : Int) < q := by omega
      have hR : Hid (okAll 0 (pieces R.data.toList) = false) := by
        show _ = _
        rw [hq'.out, decide_eq_false hn8]; rfl
      gi_wp2_with (first | rw [hqn] | rw [hV])
      refine ⟨trivial, ?_⟩
      gi_wp2_with fail
      exact ⟨hfin.out.2.2.2.1, E2, Gr.refl _ _, hfin.out.2.2.2.2, rfl, hR, n + 1, hfin.out.2.2.1⟩
  case done =>
    rintro D E2 U hD hK hnD hm hg ⟨hE2, n, _, hq, hb2⟩
    have hok : Hid (okAll 0 (pieces R.data.toList) = true) := hq
    clear hq
    have k0 := hb2.r.c
    have k2 := hb2.r.f
    gi_wp2_with fail
    have hK2 := (KeepsOthers.setCell U ⟨w.heap.size, 0, none⟩ (.bool true)).same D _ hK rfl
    have hb3 := hb2.r.set (.bool true)
    have mS : Mv E2 U (U.setCell ⟨w.heap.size, 0, none⟩ (.bool true)) := Mv.set1 ((hE2 _).2 (.inl rfl)) _
    refine ⟨by simp, .inl ⟨_, _, rfl, run_takeDeferred hK2, ?_⟩⟩
    have g0 := cell_kept hb3.c (grownBy_putObj' _ D (.deferred none)) (fun r e => by cases e; exact ⟨_, hK2, rfl⟩)
    refine ⟨.bool true, ?_, by rw [hok.out], ?_⟩
    · simp [results, Tryd.results28, go_sem, g0]
    · exact mB.trans (((hm.trans hg mS).put_new (l := D) (by omega) _).toBelow (by omega) (fun k hk h => by rcases (hE k).1 h with e | e <;> omega))
  case stop =>
    rintro D c E2 U hD hK hnD hm hg ⟨hE2, rfl, hq, n, hb2⟩
    have hok : Hid (okAll 0 (pieces R.data.toList) = false) := hq
    clear hq
    gi_wp2_with fail
    refine ⟨by simp, .inl ⟨_, _, rfl, run_takeDeferred hK, ?_⟩⟩
    have g0 := cell_kept hb2.r.c (grownBy_putObj' _ D (.deferred none)) (fun r e => by cases e; exact ⟨_, hK, rfl⟩)
    refine ⟨.bool false, ?_, by rw [hok.out], ?_⟩
    · simp [results, Tryd.results28, go_sem, g0]
    · exact mB.trans ((hm.put_new (l := D) (by omega) _).toBelow (by omega) (fun k hk h => by rcases (hE k).1 h with e | e <;> omega))
theorem isPath_any (s : ByteArray) (w : World) (hg : Mx w) (hs : s.size ≤ 100000) : Calls Tryd.prog 28 #[.string s] w fun e w' => e = .returned (.bool (isP s)) ∧ Below w.heap.size w w' := by
  by_cases hr : s = rootS
  · rw [hr]; exact isPath_root w
  · by_cases hh : hd (byt s)
    · exact isPath_hd s w hg hr hh hs
    · exact isPath_bad s w hr hh
end Go.Proofs.YtnniahlacfflmaaDoor
