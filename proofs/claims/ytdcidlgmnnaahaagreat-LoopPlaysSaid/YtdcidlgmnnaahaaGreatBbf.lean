import Derived.Test.YtdcidlgmnnaahaaGreatBbe
import Derived.Test.YtdcidlgmnnaahaaGreatBad
import Derived.Deep.QuietTactic
import Derived.BigQuiet
import Derived.Test.YtdcidlgmnnaahaaGreatBaa
/- LoopPlays: the document's Push. -/
namespace Go.Proofs.YtdcidlgmnnaahaaGreat
open Go.RowKit Go.Shelf Go.Lib
attribute [local go_sem] Oper.semAt_some
/-- What waits, and the one that comes. -/
def Sb (rb N : Nat) (v : Value) (k p s : Int) (u x : ByteArray) (W : World) : Prop := W.cell? ⟨rb, 0, none⟩ = some v ∧ W.cell? ⟨N, 0, none⟩ = some (.int .i64 k) ∧ W.cell? ⟨N, 1, none⟩ = some (.int .i64 p) ∧ W.cell? ⟨N, 2, none⟩ = some (.int .i64 s) ∧ W.cell? ⟨N, 3, none⟩ = some (.string u) ∧ W.cell? ⟨N, 4, none⟩ = some (.string x)
theorem Sb.below {rb N : Nat} {v : Value} {k p s : Int} {u x : ByteArray} {W V : World} (h : Sb rb N v k p s u x W) (b : Below W.heap.size W V) : Sb rb N v k p s u x V :=
  ⟨bcell b (cell_lt h.1) h.1, bcell b (cell_lt h.2.1) h.2.1, bcell b (cell_lt h.2.2.1) h.2.2.1, bcell b (cell_lt h.2.2.2.1) h.2.2.2.1, bcell b (cell_lt h.2.2.2.2.1) h.2.2.2.2.1, bcell b (cell_lt h.2.2.2.2.2) h.2.2.2.2.2⟩
theorem Rl.lay {W : World} {rb N n : Nat} {E : Nat → Prop} {L L' : List Wt} {T : List Du} (h : Rl W rb E L T) {v : Value} {k p s : Int} {u x : ByteArray} (hn : n < 100000) (hs : Sb rb N v k p s u x W) {i : Nat} (hk : i ≤ L.length) (hl : L.length ≤ 1000) (hL : L' = L.take i ++ mkW k p s u x n hn :: L.drop i) :
    ∃ pt nt ct, (∀ W, (Instr.slice 27 v none (some (.int .i64 i)) none).run Tryz.prog W = .ok (.slice pt nt ct) W) ∧
    ∃ p1 n1 c1 W1, (Builtin.append_ #[27, 27] 27 #[.slice none 0 0, .slice pt nt ct]).run Tryz.prog W = .ok (.slice p1 n1 c1) W1 ∧ Sb rb N v k p s u x W1.drew ∧
    ∃ A, W1.drew.alloc (.cells #[.int .i64 k, .int .i64 p, .int .i64 s, .string u, .string x] 32) = A ∧ Sb rb N v k p s u x A ∧
    ∃ p2 n2 c2 W2, (Builtin.append_ #[27, 27] 27 #[.slice p1 n1 c1, .slice (some ⟨W1.heap.size, 0, none⟩) 1 1]).run Tryz.prog A = .ok (.slice p2 n2 c2) W2 ∧ Sb rb N v k p s u x W2 ∧
    ∃ pd nd cd, (∀ W, (Instr.slice 27 v (some (.int .i64 i)) none none).run Tryz.prog W = .ok (.slice pd nd cd) W) ∧
    ∃ p3 n3 c3 W3, (Builtin.append_ #[27, 27] 27 #[.slice p2 n2 c2, .slice pd nd cd]).run Tryz.prog W2 = .ok (.slice p3 n3 c3) W3 ∧ Sb rb N v k p s u x W3 ∧ W3.frozen? ⟨rb, 0, none⟩ = false ∧ ∀ V, W3.setCell ⟨rb, 0, none⟩ (.slice p3 n3 c3) = V → Rgo W rb E L' T V := by
  obtain ⟨ve, vt, c0, c1', f0, f1, sl, st, n0, n1', n2', hE⟩ := h
  obtain rfl : ve = v := by have := hs.1; rw [c0] at this; exact Option.some.inj this
  obtain ⟨tv, htv, svt⟩ := Me.slice_hi sl hk
  obtain ⟨pt, ct, rfl⟩ := svt.shape
  refine ⟨pt, _, ct, htv, ?_⟩
  have lt1 : (L.take i).length ≤ 1000 := by rw [List.length_take]; omega
  have lt2 : (L.drop i).length ≤ 1000 := by rw [List.length_drop]; omega
  obtain ⟨v1, W1, hr1, sv1, mv1, at1⟩ := Me.SV.cat (v := .slice none 0 0) (l := []) (.inl ⟨rfl, rfl⟩) svt (by simp) (by omega)
  rw [List.nil_append] at sv1
  obtain ⟨p1, c1, rfl⟩ := sv1.shape
  have nb1 : ∀ b, Qd.nbk (.slice p1 (L.take i).length c1) = some b → W.heap.size ≤ b := fun b e => by
    rcases at1 with z | ⟨k', z, hk'⟩
    · rw [e] at z; cases z
    · rw [e] at z; injection z with z; omega
  have b1 : Below W.heap.size W W1 := mv1.toBelow (Nat.le_refl _) (fun b _ e => by cases e)
  have b1d : Below W.heap.size W W1.drew := b1.trans ⟨rfl, rfl, rfl, Nat.le_refl _, fun _ _ => rfl⟩
  obtain ⟨A, hA⟩ : ∃ A, W1.drew.alloc (.cells #[.int .i64 k, .int .i64 p, .int .i64 s, .string u, .string x] 32) = A := ⟨_, rfl⟩
  have bA1 : Below W1.drew.heap.size W1.drew A := by rw [← hA]; exact (Below.refl _ _).alloc (Nat.le_refl _) _
  have bA : Below W.heap.size W A := b1d.trans (bA1.mono b1.size)
  have hx : Me.RA A W1.heap.size 0 [mkW k p s u x n hn] := fun j z hj => by
    match j, hj with
    | 0, hj => simp [Me.flat, mkW] at hj; subst hj; rw [← hA]; exact cell_at rfl rfl
    | 1, hj => simp [Me.flat, mkW] at hj; subst hj; rw [← hA]; exact cell_at rfl rfl
    | 2, hj => simp [Me.flat, mkW] at hj; subst hj; rw [← hA]; exact cell_at rfl rfl
    | 3, hj => simp [Me.flat, mkW] at hj; subst hj; rw [← hA]; exact cell_at rfl rfl
    | 4, hj => simp [Me.flat, mkW] at hj; subst hj; rw [← hA]; exact cell_at rfl rfl
    | j + 5, hj => simp [Me.flat] at hj
  have sv1A : Me.SV A (.slice p1 (L.take i).length c1) (L.take i) := (sv1.mv (F := fun _ => False) (V := W1.drew) (Mv.drew _ _) (fun _ _ h => h)).mv (F := fun _ => False) (Mv.below bA1) (fun _ _ h => h)
  obtain ⟨v2, W2, hr2, sv2, mv2, at2⟩ := sv1A.append hx (by omega) 1
  obtain ⟨p2, c2, rfl⟩ := sv2.shape
  have b2 : Below W.heap.size W W2 := bA.trans (mv2.toBelow bA.size (fun b hb e => by have := nb1 b e; omega))
  have nb2 : ∀ b, Qd.nbk (.slice p2 (L.take i ++ [mkW k p s u x n hn]).length c2) = some b → W.heap.size ≤ b := fun b e => by
    rcases at2 with z | ⟨k', z, hk'⟩
    · exact nb1 b (z ▸ e)
    · rw [e] at z; injection z with z; have := bA.size; omega
  obtain ⟨dv, hdv, svd, nbd⟩ := Me.slice_lo sl hk
  obtain ⟨pd, cd, rfl⟩ := svd.shape
  have svd2 := svd.mv (F := fun _ => False) (Mv.below b2) (fun _ _ h => h)
  have l2 : (L.take i ++ [mkW k p s u x n hn]).length ≤ 1001 := by rw [List.length_append]; simp; omega
  obtain ⟨v3, W3, hr3, sv3, mv3, at3⟩ := Me.SV.cat sv2 svd2 (by omega) (by omega)
  obtain ⟨p3, c3, rfl⟩ := sv3.shape
  have b3 : Below W.heap.size W W3 := b2.trans (mv3.toBelow b2.size (fun b hb e => by have := nb2 b e; omega))
  have nb3 : ∀ b, Qd.nbk (.slice p3 (L.take i ++ [mkW k p s u x n hn] ++ L.drop i).length c3) = some b → W.heap.size ≤ b := fun b e => by
    rcases at3 with z | ⟨k', z, hk'⟩
    · exact nb2 b (z ▸ e)
    · rw [e] at z; injection z with z; have := b2.size; omega
  have eL : L.take i ++ [mkW k p s u x n hn] ++ L.drop i = L' := by rw [hL]; simp
  rw [eL] at sv3 nb3 hr3
  have lr := cell_lt c0
  simp only at lr
  have lr3 : rb < W3.heap.size := Nat.lt_of_lt_of_le lr b3.size
  have hm3 : W3.cell? ⟨rb, 0, none⟩ = some ve := bcell b3 lr c0
  refine ⟨p1, _, c1, W1, hr1, hs.below b1d, A, hA, hs.below bA, p2, _, c2, W2, hr2, hs.below b2, pd, _, cd, hdv, p3, _, c3, W3, hr3, hs.below b3, (bfroz b3 lr).trans f0, fun V hV => ?_⟩
  have cv := Cv.one W3 rb 0 (.slice p3 L'.length c3)
  rw [hV] at cv
  have mV : Mv (fun k => k = rb) W3 V := cv.mv.mono fun k _ s => by obtain ⟨j, s, _⟩ := s; exact s
  have m2 : Mv (fun k => k = rb) W V := (Mv.below b3).trans' mV
  have sV := mV.size
  have nV : Qd.nbk (.slice p3 L'.length c3) ≠ some rb := fun e => by have := nb3 rb e; omega
  refine ⟨fun k => k = rb ∨ Qd.nbk (.slice p3 L'.length c3) = some k ∨ Qd.nbk vt = some k, ⟨.slice p3 L'.length c3, vt, by rw [← hV]; exact World.cell?_setCell_same _ _ _ hm3, cv.cell (fun s => by have := s.2; omega) (bcell b3 lr c1'), (cv.fr rb 0 lr3).trans ((bfroz b3 lr).trans f0), (cv.fr rb 1 lr3).trans ((bfroz b3 lr).trans f1), sv3.mv mV (fun k hk e => nV (by have e' : k = rb := e; rw [← e']; exact hk)), st.mv m2 (fun k hk e => n1' (by have e' : k = rb := e; rw [← e']; exact hk)), nV, n1', fun k hk e => ?_, fun k => Iff.rfl⟩, m2.mono fun k _ e => (hE k).2 (.inl e), fun k hk => ?_⟩
  · have := nb3 k hk; have := st.lt e; omega
  · rcases hk with e | e | e
    · exact .inl ((hE k).2 (.inl e))
    · exact .inr (nb3 k e)
    · exact .inl ((hE k).2 (.inr (.inr e)))
set_option maxRecDepth 100000 in
set_option maxHeartbeats 1000000 in
theorem rpush_bad {W : World} {rb : Nat} {E : Nat → Prop} {L : List Wt} {T : List Du} (h : Rl W rb E L T) (k p s : Int) (u x : ByteArray) (hk : k < 1 ∨ 6 < k) :
    Calls Tryz.prog 7 #[.pointer (some ⟨rb, 0, none⟩), .agg #[.int .i64 k, .int .i64 p, .int .i64 s, .string u, .string x]] W fun e V => e = .returned (.int .i64 140) ∧ Rgo W rb E L T V := by
  obtain ⟨V, hV⟩ : ∃ V, W.alloc (.cells #[.int .i64 k, .int .i64 p, .int .i64 s, .string u, .string x] 32) = V := ⟨_, rfl⟩
  have fin := hidP (h.same (V := V) (by rw [← hV]; exact (Below.refl _ _).alloc (Nat.le_refl _) _))
  have x0 : V.cell? ⟨W.heap.size, 0, none⟩ = some (.int .i64 k) := by rw [← hV]; exact cell_at rfl rfl
  clear h
  rcases hk with hk | hk
  · go_enter Tryz.func7, Tryz.ntmps7
    go_wp2_with (rw [hV])
    go_ret
    exact ⟨rfl, fin.out⟩
  · have h1 : ¬ k < 1 := by omega
    have h2 : decide (k < 1) = false := by simpa using h1
    go_enter Tryz.func7, Tryz.ntmps7
    go_wp2_with (rw [hV])
    go_ret
    exact ⟨rfl, fin.out⟩
set_option maxRecDepth 100000 in
set_option maxHeartbeats 4000000 in
theorem rpush_any {W : World} {rb n : Nat} {E : Nat → Prop} {L : List Wt} {T : List Du} (h : Rl W rb E L T) (hs : Ks L) (hl : L.length ≤ 1000) (hn : n < 100000) (hb : ∀ y ∈ L, y.n < n) (k p s : Int) (u x : ByteArray) (hk1 : 1 ≤ k) (hk2 : k ≤ 6) :
    Calls Tryz.prog 7 #[.pointer (some ⟨rb, 0, none⟩), .agg #[.int .i64 k, .int .i64 p, .int .i64 s, .string u, .string x]] W fun e V => e = .returned (.int .i64 0) ∧ Rgo W rb E (insA keyW (mkW k p s u x n hn) L) T V := by
  obtain ⟨N, hN⟩ : ∃ N, W.heap.size = N := ⟨_, rfl⟩
  obtain ⟨W0, hW0⟩ : ∃ W0, W.alloc (.cells #[.int .i64 k, .int .i64 p, .int .i64 s, .string u, .string x] 32) = W0 := ⟨_, rfl⟩
  have b0 : Below W.heap.size W W0 := by rw [← hW0]; exact (Below.refl _ _).alloc (Nat.le_refl _) _
  have bx : ∀ j v, #[.int .i64 k, .int .i64 p, .int .i64 s, .string u, .string x][j]? = some v → W0.cell? ⟨N, j, none⟩ = some v := fun j v hj => by rw [← hW0]; exact cell_at hN hj
  have g1 : ¬ k < 1 := by omega
  have g2 : decide (k < 1) = false := by simpa using g1
  have g3 : ¬ 6 < k := by omega
  have g4 : decide (6 < k) = false := by simpa using g3
  have h0 : Rl W0 rb E L T := h.mv (F := fun _ => False) (Mv.below b0) (fun _ _ f => f)
  have hkey : ∀ y ∈ L, (keyW (mkW k p s u x n hn) < keyW y ↔ k < y.k) := fun y hy => by
    rw [keyW_less]
    have := hb y hy
    show (k < y.k ∨ k = y.k ∧ n < y.n) ↔ _
    constructor
    · rintro (z | ⟨_, z⟩) <;> omega
    · exact .inl
  have hkH := hidP hkey
  have hsH := hidP hs
  obtain ⟨ve, vt, c0, _, _, _, sl, _⟩ := (id h0 : Rl W0 rb E L T)
  obtain ⟨pv, cv, rfl⟩ := sl.shape
  obtain ⟨m, hm⟩ : ∃ m, L.length = m := ⟨_, rfl⟩
  rw [hm] at c0 hl
  have hmI : (m : Int) ≤ 1000 := by omega
  have hmH := hidP hm
  have hS0 : Hid ((∀ y ∈ L.drop m, k < y.k) ∧ Below W0.heap.size W0 W0) := ⟨fun y hy => (by rw [← hm, List.drop_length] at hy; cases hy), Below.refl _ _⟩
  have hR0 := hidP h0
  have hs0 : Hid (Sb rb N (.slice pv m cv) k p s u x W0) := ⟨c0, bx 0 _ rfl, bx 1 _ rfl, bx 2 _ rfl, bx 3 _ rfl, bx 4 _ rfl⟩
  have x0 : W0.cell? ⟨N, 0, none⟩ = some (.int .i64 k) := bx 0 _ rfl
  have b0H := hidP b0
  have slH := hidP sl
  clear h h0 hs hb hkey sl hm hl bx b0
  go_enter Tryz.func7, Tryz.ntmps7
  go_wp2_with (rw [hW0])
  go_loopw [5] (fun i wr => ∃ (k' : Nat), k' ≤ m ∧ i = .int .i64 k' ∧ Hid ((∀ y ∈ L.drop k', k < y.k) ∧ Below W0.heap.size W0 wr)) (fun i _ => (intOf i).toNat)
  case atStart => exact ⟨m, Nat.le_refl _, rfl, hS0⟩
  case round =>
    obtain ⟨i, hi, rfl, hAk⟩ := hrel
    clear hS0
    obtain ⟨hgt, bw⟩ := hAk.out
    have bN0 : ∀ nq, Below wr.heap.size wr (wr.drewN nq) := fun nq => ⟨rfl, rfl, rfl, Nat.le_refl _, fun _ _ => rfl⟩
    have bw0N : Hid (∀ nq, Below W0.heap.size W0 (wr.drewN nq)) := fun nq => bw.trans ((bN0 nq).mono bw.size)
    have bwN : Hid (∀ nq, Below W.heap.size W (wr.drewN nq)) := fun nq => b0H.out.trans ((bw0N.out nq).mono b0H.out.size)
    have hSN : ∀ nq, Sb rb N (.slice pv m cv) k p s u x (wr.drewN nq) := fun nq => hs0.out.below (bw0N.out nq)
    have hSNH := hidP hSN
    have hRN : Hid (∀ nq, Rl (wr.drewN nq) rb E L T) := fun nq => hR0.out.mv (F := fun _ => False) (Mv.below (bw0N.out nq)) (fun _ _ f => f)
    have rbN : ∀ nq, (wr.drewN nq).cell? ⟨rb, 0, none⟩ = some (.slice pv m cv) := fun nq => (hSN nq).1
    have xN : ∀ nq, (wr.drewN nq).cell? ⟨N, 0, none⟩ = some (.int .i64 k) := fun nq => (hSN nq).2.1
    rcases i with _ | i
    · have hk0 : ¬ (0 : Int) < 0 := by omega
      have hgtH := hidP hgt
      clear hAk hgt bw bN0 hSN c0 x0
      go_wp2_with fail
      go_quiet (fail)
      have hRx := hRN.out nq
      have hsx := hSNH.out nq
      have hins : insA keyW (mkW k p s u x n hn) L = L.take 0 ++ mkW k p s u x n hn :: L.drop 0 := insA_at keyW _ L 0 (fun y hy => (hkH.out y (List.mem_of_mem_drop hy)).2 (hgtH.out y hy)) (fun y hy => by simp at hy)
      clear hRN hgtH rbN xN hSNH bw0N
      obtain ⟨pt, nt, ct, htv, p1, n1, c1, W1, hr1, hs1, A, hA, hsA, p2, n2, c2, W2, hr2, hs2, pd, nd, cd, hdv, p3, n3, c3, W3, hr3, hs3, hf3, hfin⟩ := Rl.lay (i := 0) (L' := insA keyW (mkW k p s u x n hn) L) hRx hn hsx (by have := hmH.out; omega) (by have := hmH.out; omega) hins
      have htv : ∀ W, (Instr.slice 27 (.slice pv m cv) none (some (.int .i64 0)) none).run Tryz.prog W = .ok (.slice pt nt ct) W := fun W => htv W
      have hdv : ∀ W, (Instr.slice 27 (.slice pv m cv) (some (.int .i64 0)) none none).run Tryz.prog W = .ok (.slice pd nd cd) W := fun W => hdv W
      obtain ⟨c30, c31, c32, c33, c34, c35⟩ := hsx
      obtain ⟨d30, d31, d32, d33, d34, d35⟩ := hs3
      obtain ⟨WT, hWT⟩ : ∃ WT, W3.setCell ⟨rb, 0, none⟩ (.slice p3 n3 c3) = WT := ⟨_, rfl⟩
      have hT : Hid (Rgo W rb E (insA keyW (mkW k p s u x n hn) L) T WT) := by
        obtain ⟨E', g1, g2, g3⟩ := hfin WT hWT
        exact ⟨E', g1, (Mv.below (bwN.out nq)).trans' g2, Gr.mono (bwN.out nq).size g3⟩
      clear hins hfin hRx bwN
      go_wp2_with (at_builtin; refine wpList_append_run rfl _ _ 27 rfl _ _ _ _ rfl rfl hr1 ?_)
      refine Zs.region (S := fun W' => W'.cell? ⟨rb, 0, none⟩ = some (.slice pv m cv) ∧ W'.cell? ⟨N, 0, none⟩ = some (.int .i64 k) ∧ W'.cell? ⟨N, 1, none⟩ = some (.int .i64 p) ∧ W'.cell? ⟨N, 2, none⟩ = some (.int .i64 s) ∧ W'.cell? ⟨N, 3, none⟩ = some (.string u) ∧ W'.cell? ⟨N, 4, none⟩ = some (.string x)) 14 (by kernel_rfl) ?_
      refine Zs.pure (i := 0) (oi := ⟨some 45, _, _, _, _, _⟩) (v := .pointer (some ⟨rb, 0, none⟩)) rfl (by kernel_rfl) (by kernel_rfl) (by kernel_rfl) (by decide) (fun _ _ _ h => h) (Or.inl ⟨by rfl, ?hy0⟩) hs1 ?_
      case hy0 => (intro w hSw; (try dsimp only at hSw); go_simp; try with_reducible rfl)
      simp only [Act.put, List.setIfInBounds_toArray, List.set_cons_zero, List.set_cons_succ]
      refine Zs.pure (i := 1) (oi := ⟨some 46, _, _, _, _, _⟩) (v := .slice p1 n1 c1) rfl (by kernel_rfl) (by kernel_rfl) (by kernel_rfl) (by decide) (fun _ _ _ h => h) (Or.inl ⟨by rfl, ?hy1⟩) hs1 ?_
      case hy1 => (intro w hSw; (try dsimp only at hSw); go_simp; try with_reducible rfl)
      simp only [Act.put, List.setIfInBounds_toArray, List.set_cons_zero, List.set_cons_succ]
      refine Zs.pure (i := 5) (oi := ⟨some 50, _, _, _, _, _⟩) (v := .pointer (some ⟨rb, 0, none⟩)) rfl (by kernel_rfl) (by kernel_rfl) (by kernel_rfl) (by decide) (fun _ _ _ h => h) (Or.inl ⟨by rfl, ?hy5⟩) hs1 ?_
      case hy5 => (intro w hSw; (try dsimp only at hSw); go_simp; try with_reducible rfl)
      simp only [Act.put, List.setIfInBounds_toArray, List.set_cons_zero, List.set_cons_succ]
      refine Zs.pure (i := 6) (oi := ⟨some 51, _, _, _, _, _⟩) (v := .pointer (some ⟨rb, 0, none⟩)) rfl (by kernel_rfl) (by kernel_rfl) (by kernel_rfl) (by decide) (fun _ _ _ h => h) (Or.inl ⟨by rfl, ?hy6⟩) hs1 ?_
      case hy6 => (intro w hSw; (try dsimp only at hSw); go_simp; try with_reducible rfl)
      simp only [Act.put, List.setIfInBounds_toArray, List.set_cons_zero, List.set_cons_succ]
      refine Zs.pure (i := 7) (oi := ⟨some 52, _, _, _, _, _⟩) (v := .pointer (some ⟨rb, 0, none⟩)) rfl (by kernel_rfl) (by kernel_rfl) (by kernel_rfl) (by decide) (fun _ _ _ h => h) (Or.inl ⟨by rfl, ?hy7⟩) hs1 ?_
      case hy7 => (intro w hSw; (try dsimp only at hSw); go_simp; try with_reducible rfl)
      simp only [Act.put, List.setIfInBounds_toArray, List.set_cons_zero, List.set_cons_succ]
      refine Zs.pure (i := 9) (oi := ⟨some 54, _, _, _, _, _⟩) (v := .int .i64 0) rfl (by kernel_rfl) (by kernel_rfl) (by kernel_rfl) (by decide) (fun _ _ _ h => h) (Or.inl ⟨by rfl, ?hy9⟩) hs1 ?_
      case hy9 => (intro w hSw; (try dsimp only at hSw); go_simp; try with_reducible rfl)
      simp only [Act.put, List.setIfInBounds_toArray, List.set_cons_zero, List.set_cons_succ]
      refine Zs.takeC (i := 2) (oi := ⟨some 47, _, _, _, _, _⟩) (v := .agg #[.int .i64 k, .int .i64 p, .int .i64 s, .string u, .string x]) 10 rfl (by kernel_rfl) (by kernel_rfl) (by kernel_rfl) (by decide) (by kernel_rfl) (by kernel_rfl) (by kernel_rfl) (fun _ _ _ h => h) (Or.inl ⟨by rfl, ?hy2⟩) hs1 ?_
      case hy2 => (intro w hSw; (try dsimp only at hSw); go_simp; try with_reducible rfl)
      simp only [Act.put, List.setIfInBounds_toArray, List.set_cons_zero, List.set_cons_succ]
      refine Zs.takeC (i := 8) (oi := ⟨some 53, _, _, _, _, _⟩) (v := .slice pv m cv) 10 rfl (by kernel_rfl) (by kernel_rfl) (by kernel_rfl) (by decide) (by kernel_rfl) (by kernel_rfl) (by kernel_rfl) (fun _ _ _ h => h) (Or.inl ⟨by rfl, ?hy8⟩) hs1 ?_
      case hy8 => (intro w hSw; (try dsimp only at hSw); go_simp; try with_reducible rfl)
      simp only [Act.put, List.setIfInBounds_toArray, List.set_cons_zero, List.set_cons_succ]
      refine Zs.pure (i := 10) (oi := ⟨some 55, _, _, _, _, _⟩) (v := .slice pd nd cd) rfl (by kernel_rfl) (by kernel_rfl) (by kernel_rfl) (by decide) (fun _ _ _ h => h) (Or.inl ⟨by rfl, ?hy10⟩) hs1 ?_
      case hy10 => (intro w hSw; (try dsimp only at hSw); go_simp; try with_reducible rfl)
      simp only [Act.put, List.setIfInBounds_toArray, List.set_cons_zero, List.set_cons_succ]
      refine Zs.one (i := 3) (oi := ⟨some 48, _, _, _, _, _⟩) (by kernel_rfl) rfl (fun K hK => ?_)
      go_simp
      refine hK.out _ _ (fun _ => hsA) ?_
      clear hK K
      try simp only [Act.put, List.setIfInBounds_toArray, List.set_cons_zero, List.set_cons_succ]
      refine Zs.one (i := 4) (oi := ⟨some 49, _, _, _, _, _⟩) (by kernel_rfl) rfl (fun K hK => ?_)
      refine Qd.step_append_run rfl (.tmp 46) (.tmp 48) 27 rfl _ _ _ _ rfl rfl hr2 ?_
      refine hK.out _ _ (fun _ => hs2) ?_
      clear hK K
      try simp only [Act.put, List.setIfInBounds_toArray, List.set_cons_zero, List.set_cons_succ]
      refine Zs.one (i := 11) (oi := ⟨some 56, _, _, _, _, _⟩) (by kernel_rfl) rfl (fun K hK => ?_)
      refine Qd.step_append_run rfl (.tmp 49) (.tmp 55) 27 rfl _ _ _ _ rfl rfl hr3 ?_
      refine hK.out _ _ (fun _ => ⟨d30, d31, d32, d33, d34, d35⟩) ?_
      clear hK K
      try simp only [Act.put, List.setIfInBounds_toArray, List.set_cons_zero, List.set_cons_succ]
      refine Zs.pure (i := 12) (oi := ⟨some 57, _, _, _, _, _⟩) (v := .pointer (some ⟨rb, 0, none⟩)) rfl (by kernel_rfl) (by kernel_rfl) (by kernel_rfl) (by decide) (fun _ _ _ h => h) (Or.inl ⟨by rfl, ?hy12⟩) ⟨d30, d31, d32, d33, d34, d35⟩ ?_
      case hy12 => (intro w hSw; (try dsimp only at hSw); go_simp; try with_reducible rfl)
      simp only [Act.put, List.setIfInBounds_toArray, List.set_cons_zero, List.set_cons_succ]
      refine Zs.pure (i := 13) (oi := ⟨some 58, _, _, _, _, _⟩) (v := .pointer (some ⟨rb, 0, none⟩)) rfl (by kernel_rfl) (by kernel_rfl) (by kernel_rfl) (by decide) (fun _ _ _ h => h) (Or.inl ⟨by rfl, ?hy13⟩) ⟨d30, d31, d32, d33, d34, d35⟩ ?_
      case hy13 => (intro w hSw; (try dsimp only at hSw); go_simp; try with_reducible rfl)
      simp only [Act.put, List.setIfInBounds_toArray, List.set_cons_zero, List.set_cons_succ]
      refine Zs.one (i := 14) (oi := ⟨none, _, _, _, _, _⟩) (by kernel_rfl) rfl (fun K hK => ?_)
      go_simp
      go_wp2_with fail
      refine hK.out _ _ (fun q => absurd q (by decide)) ?_
      clear hK K
      try simp only [Act.put, List.setIfInBounds_toArray, List.set_cons_zero, List.set_cons_succ]
      refine Zs.done (by kernel_rfl) ?_ _
      clear hs1 hsA hs2 hr1 hr2 hr3 htv hdv hf3 c30 c31 c32 c33 c34 c35 d30 d31 d32 d33 d34 d35
      go_wp2_with (rw [hWT])
      go_ret
      exact ⟨rfl, hT.out⟩
    · obtain ⟨y, hy⟩ : ∃ y, L[i]? = some y := ⟨_, List.getElem?_eq_getElem (by have := hmH.out; omega)⟩
      have slr := slH.out.mv (F := fun _ => False) (Mv.below bw) (fun _ _ f => f)
      obtain ⟨g, o, c, hgv, rs⟩ := slr.resolve_left (fun z => by rw [z.2] at hy; cases hy)
      have h2 := rs.ra.at hy
      injection hgv with e1 e2 e3
      subst e1
      subst e3
      clear e2
      obtain ⟨yk, hyk⟩ : ∃ yk, y.k = yk := ⟨_, rfl⟩
      have r1N : ∀ nq, (wr.drewN nq).cell? ⟨g, o + i * 5, none⟩ = some (.int .i64 yk) := fun nq => (by rw [← hyk]; exact h2.1 : wr.cell? _ = _)
      have hkI : (i : Int) + 1 ≤ (m : Int) := by omega
      have hkI2 : (i : Int) < (m : Int) := by omega
      have hk0 : (0 : Int) < (i : Int) + 1 := by omega
      have hgtH := hidP hgt
      have hyH := hidP hy
      have hykH := hidP hyk
      have hicap : i < cv := by have := rs.le; have := hmH.out; omega
      by_cases hyd : k < yk
      · clear hAk hgt rs h2 hy hyk bw bN0 hSN hSNH hRN slr c0 x0
        go_wp2_with fail
        go_quiet (fail)
        have nx2 : Hid ((∀ y ∈ L.drop i, k < y.k) ∧ Below W0.heap.size W0 (wr.drewN nq)) := ⟨(fun z hz => by
          rw [List.drop_eq_getElem_cons (by have := hmH.out; omega)] at hz
          rcases List.mem_cons.1 hz with e | e
          · have := hyH.out
            rw [List.getElem?_eq_getElem (by have := hmH.out; omega)] at this
            injection this with this
            rw [e, this, hykH.out]; exact hyd
          · exact hgtH.out z e), bw0N.out nq⟩
        clear bw0N bwN rbN xN r1N hgtH hyH
        go_wp2_with fail
        exact ⟨⟨i, by omega, by go_num, nx2⟩, by simp [intOf]⟩
      · clear hAk hgt rs h2 hy hyk bw bN0 hSN slr c0 x0
        go_wp2_with fail
        go_quiet (fail)
        have hRx := hRN.out nq
        have hsx := hSNH.out nq
        have hins : insA keyW (mkW k p s u x n hn) L = L.take (i + 1) ++ mkW k p s u x n hn :: L.drop (i + 1) := insA_at keyW _ L (i + 1) (fun y hy => (hkH.out y (List.mem_of_mem_drop hy)).2 (hgtH.out y hy)) (take_le keyW _ hsH.out hyH.out (fun z => by have := (hkH.out y (List.mem_of_getElem? hyH.out)).1 z; have := hykH.out; omega))
        clear hRN hgtH hyH rbN xN r1N hSNH bw0N
        obtain ⟨pt, nt, ct, htv, p1, n1, c1, W1, hr1, hs1, A, hA, hsA, p2, n2, c2, W2, hr2, hs2, pd, nd, cd, hdv, p3, n3, c3, W3, hr3, hs3, hf3, hfin⟩ := Rl.lay (i := i + 1) (L' := insA keyW (mkW k p s u x n hn) L) hRx hn hsx (by have := hmH.out; omega) (by have := hmH.out; omega) hins
        have htv : ∀ W, (Instr.slice 27 (.slice (some ⟨g, o, none⟩) m cv) none (some (.int .i64 ((i : Int) + 1))) none).run Tryz.prog W = .ok (.slice pt nt ct) W := fun W => htv W
        have hdv : ∀ W, (Instr.slice 27 (.slice (some ⟨g, o, none⟩) m cv) (some (.int .i64 ((i : Int) + 1))) none none).run Tryz.prog W = .ok (.slice pd nd cd) W := fun W => hdv W
        obtain ⟨c30, c31, c32, c33, c34, c35⟩ := hsx
        obtain ⟨d30, d31, d32, d33, d34, d35⟩ := hs3
        obtain ⟨WT, hWT⟩ : ∃ WT, W3.setCell ⟨rb, 0, none⟩ (.slice p3 n3 c3) = WT := ⟨_, rfl⟩
        have hT : Hid (Rgo W rb E (insA keyW (mkW k p s u x n hn) L) T WT) := by
          obtain ⟨E', g1, g2, g3⟩ := hfin WT hWT
          exact ⟨E', g1, (Mv.below (bwN.out nq)).trans' g2, Gr.mono (bwN.out nq).size g3⟩
        clear hins hfin hRx bwN
        go_wp2_with (at_builtin; refine wpList_append_run rfl _ _ 27 rfl _ _ _ _ rfl rfl hr1 ?_)
        refine Zs.region (S := fun W' => W'.cell? ⟨rb, 0, none⟩ = some (.slice (some ⟨g, o, none⟩) m cv) ∧ W'.cell? ⟨N, 0, none⟩ = some (.int .i64 k) ∧ W'.cell? ⟨N, 1, none⟩ = some (.int .i64 p) ∧ W'.cell? ⟨N, 2, none⟩ = some (.int .i64 s) ∧ W'.cell? ⟨N, 3, none⟩ = some (.string u) ∧ W'.cell? ⟨N, 4, none⟩ = some (.string x)) 14 (by kernel_rfl) ?_
        refine Zs.pure (i := 0) (oi := ⟨some 45, _, _, _, _, _⟩) (v := .pointer (some ⟨rb, 0, none⟩)) rfl (by kernel_rfl) (by kernel_rfl) (by kernel_rfl) (by decide) (fun _ _ _ h => h) (Or.inl ⟨by rfl, ?hy0⟩) hs1 ?_
        case hy0 => (intro w hSw; (try dsimp only at hSw); go_simp; try with_reducible rfl)
        simp only [Act.put, List.setIfInBounds_toArray, List.set_cons_zero, List.set_cons_succ]
        refine Zs.pure (i := 1) (oi := ⟨some 46, _, _, _, _, _⟩) (v := .slice p1 n1 c1) rfl (by kernel_rfl) (by kernel_rfl) (by kernel_rfl) (by decide) (fun _ _ _ h => h) (Or.inl ⟨by rfl, ?hy1⟩) hs1 ?_
        case hy1 => (intro w hSw; (try dsimp only at hSw); go_simp; try with_reducible rfl)
        simp only [Act.put, List.setIfInBounds_toArray, List.set_cons_zero, List.set_cons_succ]
        refine Zs.pure (i := 5) (oi := ⟨some 50, _, _, _, _, _⟩) (v := .pointer (some ⟨rb, 0, none⟩)) rfl (by kernel_rfl) (by kernel_rfl) (by kernel_rfl) (by decide) (fun _ _ _ h => h) (Or.inl ⟨by rfl, ?hy5⟩) hs1 ?_
        case hy5 => (intro w hSw; (try dsimp only at hSw); go_simp; try with_reducible rfl)
        simp only [Act.put, List.setIfInBounds_toArray, List.set_cons_zero, List.set_cons_succ]
        refine Zs.pure (i := 6) (oi := ⟨some 51, _, _, _, _, _⟩) (v := .pointer (some ⟨rb, 0, none⟩)) rfl (by kernel_rfl) (by kernel_rfl) (by kernel_rfl) (by decide) (fun _ _ _ h => h) (Or.inl ⟨by rfl, ?hy6⟩) hs1 ?_
        case hy6 => (intro w hSw; (try dsimp only at hSw); go_simp; try with_reducible rfl)
        simp only [Act.put, List.setIfInBounds_toArray, List.set_cons_zero, List.set_cons_succ]
        refine Zs.pure (i := 7) (oi := ⟨some 52, _, _, _, _, _⟩) (v := .pointer (some ⟨rb, 0, none⟩)) rfl (by kernel_rfl) (by kernel_rfl) (by kernel_rfl) (by decide) (fun _ _ _ h => h) (Or.inl ⟨by rfl, ?hy7⟩) hs1 ?_
        case hy7 => (intro w hSw; (try dsimp only at hSw); go_simp; try with_reducible rfl)
        simp only [Act.put, List.setIfInBounds_toArray, List.set_cons_zero, List.set_cons_succ]
        refine Zs.pure (i := 9) (oi := ⟨some 54, _, _, _, _, _⟩) (v := .int .i64 ((i : Int) + 1)) rfl (by kernel_rfl) (by kernel_rfl) (by kernel_rfl) (by decide) (fun _ _ _ h => h) (Or.inl ⟨by rfl, ?hy9⟩) hs1 ?_
        case hy9 => (intro w hSw; (try dsimp only at hSw); go_simp; try with_reducible rfl)
        simp only [Act.put, List.setIfInBounds_toArray, List.set_cons_zero, List.set_cons_succ]
        refine Zs.takeC (i := 2) (oi := ⟨some 47, _, _, _, _, _⟩) (v := .agg #[.int .i64 k, .int .i64 p, .int .i64 s, .string u, .string x]) 10 rfl (by kernel_rfl) (by kernel_rfl) (by kernel_rfl) (by decide) (by kernel_rfl) (by kernel_rfl) (by kernel_rfl) (fun _ _ _ h => h) (Or.inl ⟨by rfl, ?hy2⟩) hs1 ?_
        case hy2 => (intro w hSw; (try dsimp only at hSw); go_simp; try with_reducible rfl)
        simp only [Act.put, List.setIfInBounds_toArray, List.set_cons_zero, List.set_cons_succ]
        refine Zs.takeC (i := 8) (oi := ⟨some 53, _, _, _, _, _⟩) (v := .slice (some ⟨g, o, none⟩) m cv) 10 rfl (by kernel_rfl) (by kernel_rfl) (by kernel_rfl) (by decide) (by kernel_rfl) (by kernel_rfl) (by kernel_rfl) (fun _ _ _ h => h) (Or.inl ⟨by rfl, ?hy8⟩) hs1 ?_
        case hy8 => (intro w hSw; (try dsimp only at hSw); go_simp; try with_reducible rfl)
        simp only [Act.put, List.setIfInBounds_toArray, List.set_cons_zero, List.set_cons_succ]
        refine Zs.pure (i := 10) (oi := ⟨some 55, _, _, _, _, _⟩) (v := .slice pd nd cd) rfl (by kernel_rfl) (by kernel_rfl) (by kernel_rfl) (by decide) (fun _ _ _ h => h) (Or.inl ⟨by rfl, ?hy10⟩) hs1 ?_
        case hy10 => (intro w hSw; (try dsimp only at hSw); go_simp; try with_reducible rfl)
        simp only [Act.put, List.setIfInBounds_toArray, List.set_cons_zero, List.set_cons_succ]
        refine Zs.one (i := 3) (oi := ⟨some 48, _, _, _, _, _⟩) (by kernel_rfl) rfl (fun K hK => ?_)
        go_simp
        refine hK.out _ _ (fun _ => hsA) ?_
        clear hK K
        try simp only [Act.put, List.setIfInBounds_toArray, List.set_cons_zero, List.set_cons_succ]
        refine Zs.one (i := 4) (oi := ⟨some 49, _, _, _, _, _⟩) (by kernel_rfl) rfl (fun K hK => ?_)
        refine Qd.step_append_run rfl (.tmp 46) (.tmp 48) 27 rfl _ _ _ _ rfl rfl hr2 ?_
        refine hK.out _ _ (fun _ => hs2) ?_
        clear hK K
        try simp only [Act.put, List.setIfInBounds_toArray, List.set_cons_zero, List.set_cons_succ]
        refine Zs.one (i := 11) (oi := ⟨some 56, _, _, _, _, _⟩) (by kernel_rfl) rfl (fun K hK => ?_)
        refine Qd.step_append_run rfl (.tmp 49) (.tmp 55) 27 rfl _ _ _ _ rfl rfl hr3 ?_
        refine hK.out _ _ (fun _ => ⟨d30, d31, d32, d33, d34, d35⟩) ?_
        clear hK K
        try simp only [Act.put, List.setIfInBounds_toArray, List.set_cons_zero, List.set_cons_succ]
        refine Zs.pure (i := 12) (oi := ⟨some 57, _, _, _, _, _⟩) (v := .pointer (some ⟨rb, 0, none⟩)) rfl (by kernel_rfl) (by kernel_rfl) (by kernel_rfl) (by decide) (fun _ _ _ h => h) (Or.inl ⟨by rfl, ?hy12⟩) ⟨d30, d31, d32, d33, d34, d35⟩ ?_
        case hy12 => (intro w hSw; (try dsimp only at hSw); go_simp; try with_reducible rfl)
        simp only [Act.put, List.setIfInBounds_toArray, List.set_cons_zero, List.set_cons_succ]
        refine Zs.pure (i := 13) (oi := ⟨some 58, _, _, _, _, _⟩) (v := .pointer (some ⟨rb, 0, none⟩)) rfl (by kernel_rfl) (by kernel_rfl) (by kernel_rfl) (by decide) (fun _ _ _ h => h) (Or.inl ⟨by rfl, ?hy13⟩) ⟨d30, d31, d32, d33, d34, d35⟩ ?_
        case hy13 => (intro w hSw; (try dsimp only at hSw); go_simp; try with_reducible rfl)
        simp only [Act.put, List.setIfInBounds_toArray, List.set_cons_zero, List.set_cons_succ]
        refine Zs.one (i := 14) (oi := ⟨none, _, _, _, _, _⟩) (by kernel_rfl) rfl (fun K hK => ?_)
        go_simp
        go_wp2_with fail
        refine hK.out _ _ (fun q => absurd q (by decide)) ?_
        clear hK K
        try simp only [Act.put, List.setIfInBounds_toArray, List.set_cons_zero, List.set_cons_succ]
        refine Zs.done (by kernel_rfl) ?_ _
        clear hs1 hsA hs2 hr1 hr2 hr3 htv hdv hf3 c30 c31 c32 c33 c34 c35 d30 d31 d32 d33 d34 d35
        go_wp2_with (rw [hWT])
        go_ret
        exact ⟨rfl, hT.out⟩
end Go.Proofs.YtdcidlgmnnaahaaGreat
/- The lexical walk of a region under names that nothing lays open by itself. -/
namespace Go.Proofs.YtdcidlgmnnaahaaGreat
@[irreducible] def WQ (P : Program) (ops : Array Oper) (C : World → Prop) (Q : Act → Prop) (l : List Oper) (a : Act) : Prop := wpQuiet P ops C Q l a
@[irreducible] def SQ (P : Program) (ops : Array Oper) (C : World → Prop) (o : Oper) (a : Act) (K : Act → Prop) : Prop :=
  if Region.wanted o (yielded ops a.tmps) then o.quiet P a C K else K (a.put o.dst undef)
theorem SQ_eq (P : Program) (ops : Array Oper) (C : World → Prop) (o : Oper) (a : Act) (K : Act → Prop) :
    SQ P ops C o a K = if Region.wanted o (yielded ops a.tmps) then o.quiet P a C K else K (a.put o.dst undef) := by unfold SQ; rfl
theorem WQ_step {P : Program} {ops : Array Oper} {C : World → Prop} {Q : Act → Prop} {a : Act} {o : Oper} {rest : List Oper} (h : ∀ K : Act → Prop, (∀ a, WQ P ops C Q rest a → K a) → SQ P ops C o a K) : WQ P ops C Q (o :: rest) a := by
  unfold WQ
  refine wpQuiet_step fun K hK => ?_
  have := h K (fun a ha => hK a (by unfold WQ at ha; exact ha))
  rw [SQ_eq] at this
  exact this
theorem WQ_nil {P : Program} {ops : Array Oper} {C : World → Prop} {Q : Act → Prop} {a : Act} (h : Q a) : WQ P ops C Q [] a := by unfold WQ; exact wpQuiet_nil h
theorem region_WQ {P : Program} {C : World → Prop} {id : Nat} {Q : Exit → Act → World → Prop} {a : Act} {w : World} {l : List Oper} (hm : P.follows .mixedOrders = true) (hB : Region.lexB .any l.toArray = true) (hC : C { w with drawn := w.drawn + 1 })
    (h : WQ P l.toArray C (fun a' => ∀ w', C w' → Q .normal a' w') l a) : (Code.region id l.toArray true).wp P Q a w := by
  unfold WQ at h
  exact wp_region_quiet hm hB hC (by simpa using h)
end Go.Proofs.YtdcidlgmnnaahaaGreat
/- LoopPlays: the document's Set. -/
namespace Go.Proofs.YtdcidlgmnnaahaaGreat
open Go.RowKit Go.Shelf Go.Lib
attribute [local go_sem] Oper.semAt_some
theorem bytesLess_irr : ∀ l : List UInt8, Op.bytesLess l l = false
  | [] => rfl
  | a :: l => by
    have hn : ¬ a < a := fun z => by have := UInt8.lt_iff_toNat_lt.1 z; omega
    simp [Op.bytesLess, hn, bytesLess_irr l]
set_option maxRecDepth 100000 in
set_option maxHeartbeats 2000000 in
theorem rahead_any (a b : Du) (W : World) :
    Calls Tryz.prog 29 #[.agg #[.string a.u, .string a.w, .int .i64 a.t], .agg #[.string b.u, .string b.w, .int .i64 b.t]] W fun e V => e = .returned (.bool (decide (keyD a < keyD b))) ∧ Below W.heap.size W V := by
  have hk := keyD_less a b
  obtain ⟨r, hr⟩ : ∃ r, decide (keyD a < keyD b) = r := ⟨_, rfl⟩
  rw [hr]
  obtain ⟨au, hau⟩ : ∃ z, a.u = z := ⟨_, rfl⟩
  obtain ⟨aw, haw⟩ : ∃ z, a.w = z := ⟨_, rfl⟩
  obtain ⟨at_, hat⟩ : ∃ z, a.t = z := ⟨_, rfl⟩
  obtain ⟨bu, hbu⟩ : ∃ z, b.u = z := ⟨_, rfl⟩
  obtain ⟨bw, hbw⟩ : ∃ z, b.w = z := ⟨_, rfl⟩
  obtain ⟨bt, hbt⟩ : ∃ z, b.t = z := ⟨_, rfl⟩
  rw [hau, haw, hat, hbu, hbw, hbt] at hk
  rw [hau, haw, hat, hbu, hbw, hbt]
  clear hau haw hat hbu hbw hbt
  obtain ⟨N, hN⟩ : ∃ N, W.heap.size = N := ⟨_, rfl⟩
  obtain ⟨A, hA⟩ : ∃ A, W.alloc (.cells #[.string au, .string aw, .int .i64 at_] 68) = A := ⟨_, rfl⟩
  obtain ⟨B, hB⟩ : ∃ B, A.alloc (.cells #[.string bu, .string bw, .int .i64 bt] 68) = B := ⟨_, rfl⟩
  have bA : Below W.heap.size W A := by rw [← hA]; exact (Below.refl _ _).alloc (Nat.le_refl _) _
  have bB : Below A.heap.size A B := by rw [← hB]; exact (Below.refl _ _).alloc (Nat.le_refl _) _
  have sA : A.heap.size = N + 1 := by rw [← hA]; simp [hN]
  have a0 : B.cell? ⟨N, 0, none⟩ = some (.string au) := bcell bB (by omega) (by rw [← hA]; exact cell_at hN rfl)
  have a1 : B.cell? ⟨N, 1, none⟩ = some (.string aw) := bcell bB (by omega) (by rw [← hA]; exact cell_at hN rfl)
  have a2 : B.cell? ⟨N, 2, none⟩ = some (.int .i64 at_) := bcell bB (by omega) (by rw [← hA]; exact cell_at hN rfl)
  have b0 : B.cell? ⟨N + 1, 0, none⟩ = some (.string bu) := by rw [← hB]; exact cell_at sA rfl
  have b1 : B.cell? ⟨N + 1, 1, none⟩ = some (.string bw) := by rw [← hB]; exact cell_at sA rfl
  have b2 : B.cell? ⟨N + 1, 2, none⟩ = some (.int .i64 bt) := by rw [← hB]; exact cell_at sA rfl
  have fin : Hid (Below W.heap.size W B) := bA.trans (bB.mono (by omega))
  clear bA bB
  by_cases ht : at_ = bt
  · by_cases hu : au = bu
    · have hub : (au.toList == bu.toList) = true := by rw [beqT]; simpa using hu
      have hres : Hid (Op.bytesLess aw.toList bw.toList = r) := by
        show _ = _
        rw [← hr]
        cases e : Op.bytesLess aw.toList bw.toList with
        | true => exact (decide_eq_true (hk.2 (.inr ⟨ht, .inr ⟨hu, e⟩⟩))).symm
        | false =>
          refine (decide_eq_false fun z => ?_).symm
          rcases hk.1 z with z | ⟨_, z | ⟨_, z⟩⟩
          · omega
          · rw [hu, bytesLess_irr] at z; cases z
          · rw [e] at z; cases z
      clear hk hr
      subst ht
      subst hu
      go_enter Tryz.func29, Tryz.ntmps29
      go_wp2_with (first | rw [hA] | rw [hB])
      go_ret
      exact ⟨by first | rfl | (rw [hres.out]; rfl), fin.out⟩
    · have hub : (au.toList == bu.toList) = false := by rw [beqT]; simpa using hu
      have hres : Hid (Op.bytesLess au.toList bu.toList = r) := by
        show _ = _
        rw [← hr]
        cases e : Op.bytesLess au.toList bu.toList with
        | true => exact (decide_eq_true (hk.2 (.inr ⟨ht, .inl e⟩))).symm
        | false =>
          refine (decide_eq_false fun z => ?_).symm
          rcases hk.1 z with z | ⟨_, z | ⟨z, _⟩⟩
          · omega
          · rw [e] at z; cases z
          · exact hu z
      clear hk hr hu
      subst ht
      go_enter Tryz.func29, Tryz.ntmps29
      go_wp2_with (first | rw [hA] | rw [hB])
      go_ret
      exact ⟨by first | rfl | (rw [hres.out]; rfl), fin.out⟩
  · have hres : Hid (decide (at_ < bt) = r) := by
      show _ = _
      rw [← hr]
      by_cases e : at_ < bt
      · rw [decide_eq_true e]; exact (decide_eq_true (hk.2 (.inl e))).symm
      · rw [decide_eq_false e]
        refine (decide_eq_false fun z => ?_).symm
        rcases hk.1 z with z | ⟨z, _⟩
        · exact e z
        · exact ht z
    clear hk hr
    go_enter Tryz.func29, Tryz.ntmps29
    go_wp2_with (first | rw [hA] | rw [hB])
    go_ret
    exact ⟨by first | rfl | (rw [hres.out]; rfl), fin.out⟩
/-- One timer behind a row. -/
theorem Md.SV.push {W : World} {v : Value} {l : List Du} (h : Md.SV W v l) (d : Du) (hl : l.length ≤ 300000) {B : Nat} (hB : W.heap.size = B) :
    ∃ v' W', (Builtin.append_ #[28, 28] 28 #[v, .slice (some ⟨B, 0, none⟩) 1 1]).run Tryz.prog (W.alloc (.cells #[.string d.u, .string d.w, .int .i64 d.t] 68)) = .ok v' W' ∧ Md.SV W' v' (l ++ [d]) ∧ Mv (fun k => Qd.nbk v = some k) W W' ∧ (Qd.nbk v' = Qd.nbk v ∨ ∃ k, Qd.nbk v' = some k ∧ W.heap.size ≤ k) := by
  subst hB
  obtain ⟨A, hA⟩ : ∃ A, W.alloc (.cells #[.string d.u, .string d.w, .int .i64 d.t] 68) = A := ⟨_, rfl⟩
  have bA : Below W.heap.size W A := by rw [← hA]; exact (Below.refl _ _).alloc (Nat.le_refl _) _
  have hx : Md.RA A W.heap.size 0 [d] := fun j z hj => by
    rw [Nat.zero_add, ← hA]
    refine cell_at rfl ?_
    match j, hj with
    | 0, hj => exact hj
    | 1, hj => exact hj
    | 2, hj => exact hj
    | j + 3, hj => simp [Md.flat] at hj
  obtain ⟨v2, W2, hr2, sv2, mv2, at2⟩ := (h.mv (F := fun _ => False) (Mv.below bA) (fun _ _ h => h)).append hx (by omega) 1
  rw [hA]
  refine ⟨v2, W2, hr2, sv2, (Mv.below bA).trans' mv2, at2.imp id ?_⟩
  rintro ⟨k, e, hk⟩
  exact ⟨k, e, Nat.le_trans bA.size hk⟩
theorem insA_cut {α : Type} {key : α → Int} {v : α} {A B : List α} (h : ∀ y ∈ A, ¬ key v < key y) (g : ∀ y ∈ B, key v < key y) : insA key v (A ++ B) = A ++ v :: B := by
  have := insA_at key v (A ++ B) A.length (fun y hy => g y (by simpa using hy)) (fun y hy => h y (by simpa using hy))
  simpa using this
/-- What is laid out so far. -/
def SI (k : TK) (a : Int) (A : List Du) (b : Bool) (O : List Du) : Prop :=
  if b = true then (if a = 9223372036854775807 then O = delT k A else O = insA keyD (mkD k a) (delT k A) ∧ ∃ y ∈ delT k A, keyD (mkD k a) < keyD y) else a ≠ 9223372036854775807 ∧ O = delT k A ∧ ∀ y ∈ O, ¬ keyD (mkD k a) < keyD y
theorem delT_off {k : TK} {x : Du} (h : x.k = k) : delT k [x] = [] := by simp [delT, h]
theorem delT_on {k : TK} {x : Du} (h : ¬ x.k = k) : delT k [x] = [x] := by simp [delT, h]
theorem SI.skip {k : TK} {a : Int} {A O : List Du} {b : Bool} {x : Du} (h : SI k a A b O) (hx : x.k = k) : SI k a (A ++ [x]) b O := by
  unfold SI at h ⊢
  rw [delT_app, delT_off hx, List.append_nil]
  exact h
theorem SI.on {k : TK} {a : Int} {A O : List Du} {x : Du} (h : SI k a A true O) (hx : ¬ x.k = k) : SI k a (A ++ [x]) true (O ++ [x]) := by
  unfold SI at h ⊢
  rw [delT_app, delT_on hx]
  rw [if_pos rfl] at h ⊢
  by_cases e : a = 9223372036854775807
  · rw [if_pos e] at h ⊢
    rw [h]
  · rw [if_neg e] at h ⊢
    obtain ⟨h1, h2⟩ := h
    refine ⟨by rw [h1, insA_in _ h2], ?_⟩
    obtain ⟨y, hy, q⟩ := h2
    exact ⟨y, List.mem_append_left _ hy, q⟩
theorem SI.stay {k : TK} {a : Int} {A O : List Du} {x : Du} (h : SI k a A false O) (hx : ¬ x.k = k) (hl : ¬ keyD (mkD k a) < keyD x) : SI k a (A ++ [x]) false (O ++ [x]) := by
  unfold SI at h ⊢
  rw [delT_app, delT_on hx]
  rw [if_neg (by decide)] at h ⊢
  obtain ⟨h1, h2, h3⟩ := h
  refine ⟨h1, by rw [h2], fun y hy => ?_⟩
  rcases List.mem_append.1 hy with z | z
  · exact h3 y z
  · have : y = x := by simpa using z
    rw [this]; exact hl
theorem SI.put {k : TK} {a : Int} {A O : List Du} {x : Du} (h : SI k a A false O) (hx : ¬ x.k = k) (hl : keyD (mkD k a) < keyD x) : SI k a (A ++ [x]) true (O ++ [mkD k a] ++ [x]) := by
  unfold SI at h ⊢
  rw [delT_app, delT_on hx]
  rw [if_neg (by decide)] at h
  obtain ⟨h1, h2, h3⟩ := h
  rw [if_pos rfl, if_neg h1]
  rw [h2] at h3
  refine ⟨?_, x, by simp, hl⟩
  rw [insA_cut h3 (fun y hy => by have : y = x := by simpa using hy
                                  rw [this]; exact hl), h2, List.append_assoc]; rfl
def setP (k : TK) (a : Int) (T : List Du) : List Du := if a = 9223372036854775807 then delT k T else setT k a T
theorem SI.done {k : TK} {a : Int} {T O : List Du} (h : SI k a T true O) : O = setP k a T := by
  unfold SI at h
  unfold setP setT
  rw [if_pos rfl] at h
  by_cases e : a = 9223372036854775807
  · rw [if_pos e] at h ⊢; exact h
  · rw [if_neg e] at h ⊢; exact h.1
theorem SI.last {k : TK} {a : Int} {T O : List Du} (h : SI k a T false O) : O ++ [mkD k a] = setP k a T := by
  unfold SI at h
  unfold setP setT
  rw [if_neg (by decide)] at h
  obtain ⟨h1, h2, h3⟩ := h
  rw [if_neg h1]
  rw [h2] at h3 ⊢
  exact (insA_end h3).symm
/-- What is laid out so far, in memory. -/
def SO (W0 : World) (k : TK) (a : Int) (A : List Du) (b : Bool) (v : Value) (W : World) : Prop :=
  ∃ O, SI k a A b O ∧ O.length ≤ A.length + 1 ∧ Md.SV W v O ∧ Below W0.heap.size W0 W ∧ ∀ j, Qd.nbk v = some j → W0.heap.size ≤ j
theorem SO.below {W0 W V : World} {k : TK} {a : Int} {A : List Du} {b : Bool} {v : Value} (h : SO W0 k a A b v W) (m : Below W.heap.size W V) : SO W0 k a A b v V := by
  obtain ⟨O, h1, h2, h3, h4, h5⟩ := h
  exact ⟨O, h1, h2, h3.mv (F := fun _ => False) (Mv.below m) (fun _ _ f => f), h4.trans (m.mono h4.size), h5⟩
theorem SO.shape {W0 W : World} {k : TK} {a : Int} {A : List Du} {b : Bool} {v : Value} (h : SO W0 k a A b v W) : ∃ p n c, v = .slice p n c := by
  obtain ⟨O, h1, h2, h3, h4, h5⟩ := h
  obtain ⟨p, c, e⟩ := h3.shape
  exact ⟨p, _, c, e⟩
/-- One more behind it. -/
theorem SO.grow {W0 W : World} {k : TK} {a : Int} {A A' : List Du} {b b' : Bool} {v : Value} (h : SO W0 k a A b v W) (hA : A.length ≤ 2000) (d : Du) (hs : ∀ O, SI k a A b O → SI k a A' b' (O ++ [d])) (hl : A'.length = A.length + 1) {B : Nat} (hB : W.heap.size = B) :
    ∃ p n c W', (Builtin.append_ #[28, 28] 28 #[v, .slice (some ⟨B, 0, none⟩) 1 1]).run Tryz.prog (W.alloc (.cells #[.string d.u, .string d.w, .int .i64 d.t] 68)) = .ok (.slice p n c) W' ∧ SO W0 k a A' b' (.slice p n c) W' := by
  obtain ⟨O, h1, h2, h3, h4, h5⟩ := h
  obtain ⟨v', W', hr, sv, mv, at2⟩ := h3.push d (by omega) hB
  obtain ⟨p, c, rfl⟩ := sv.shape
  refine ⟨p, _, c, W', hr, _, hs O h1, by rw [List.length_append]; simp; omega, sv, h4.trans (mv.toBelow h4.size fun j hj e => by have := h5 j e; omega), fun j e => ?_⟩
  rcases at2 with z | ⟨j', z, hj⟩
  · exact h5 j (z ▸ e)
  · rw [e] at z; injection z with z; have := h4.size; omega
/-- The new one and the next one behind it. -/
theorem SO.two {W0 W : World} {k : TK} {a : Int} {A : List Du} {x : Du} {v : Value} (h : SO W0 k a A false v W) (hA : A.length ≤ 1999) (hx : ¬ x.k = k) (hlt : keyD (mkD k a) < keyD x) {B : Nat} (hB : W.heap.size = B) :
    ∃ p n c W', (Builtin.append_ #[28, 28] 28 #[v, .slice (some ⟨B, 0, none⟩) 1 1]).run Tryz.prog (W.alloc (.cells #[.string k.1.1, .string k.1.2, .int .i64 a] 68)) = .ok (.slice p n c) W' ∧ Below W0.heap.size W0 W' ∧
    ∀ C, W'.heap.size = C → ∃ p2 n2 c2 W2, (Builtin.append_ #[28, 28] 28 #[.slice p n c, .slice (some ⟨C, 0, none⟩) 1 1]).run Tryz.prog (W'.alloc (.cells #[.string x.u, .string x.w, .int .i64 x.t] 68)) = .ok (.slice p2 n2 c2) W2 ∧ SO W0 k a (A ++ [x]) true (.slice p2 n2 c2) W2 := by
  obtain ⟨O, h1, h2, h3, h4, h5⟩ := h
  have hOl : O.length ≤ A.length := by
    have q := h1
    unfold SI at q
    rw [if_neg (by decide)] at q
    rw [q.2.1]
    exact List.length_filter_le _ _
  obtain ⟨v', W', hr, sv, mv, at2⟩ := h3.push (mkD k a) (by omega) hB
  obtain ⟨p, c, rfl⟩ := sv.shape
  have b1 : Below W0.heap.size W0 W' := h4.trans (mv.toBelow h4.size fun j hj e => by have := h5 j e; omega)
  have nb : ∀ j, Qd.nbk (.slice p (O ++ [mkD k a]).length c) = some j → W0.heap.size ≤ j := fun j e => by
    rcases at2 with z | ⟨j', z, hj⟩
    · exact h5 j (z ▸ e)
    · rw [e] at z; injection z with z; have := h4.size; omega
  refine ⟨p, _, c, W', hr, b1, fun C hC => ?_⟩
  obtain ⟨v2, W2, hr2, sv2, mv2, at3⟩ := sv.push x (by rw [List.length_append]; simp; omega) hC
  obtain ⟨p2, c2, rfl⟩ := sv2.shape
  refine ⟨p2, _, c2, W2, hr2, _, h1.put hx hlt, by simp; omega, sv2, b1.trans (mv2.toBelow b1.size fun j hj e => by have := nb j e; omega), fun j e => ?_⟩
  rcases at3 with z | ⟨j', z, hj⟩
  · exact nb j (z ▸ e)
  · rw [e] at z; injection z with z; have := b1.size; omega
/-- It takes the place of what was set. -/
theorem Rl.setT {W0 W V : World} {rb : Nat} {E : Nat → Prop} {L : List Wt} {T O : List Du} (h : Rl W0 rb E L T) (b0 : Below W0.heap.size W0 W) {v : Value} (sv : Md.SV W v O) (hv : ∀ j, Qd.nbk v = some j → W0.heap.size ≤ j) (hV : W.setCell ⟨rb, 1, none⟩ v = V) : Rgo W0 rb E L O V := by
  obtain ⟨ve, vt, c0, c1, f0, f1, sl, st, n0, n1, n2, hE⟩ := h
  have lr := cell_lt c0
  simp only at lr
  have lrW : rb < W.heap.size := Nat.lt_of_lt_of_le lr b0.size
  have cv := Cv.one W rb 1 v
  rw [hV] at cv
  have mV : Mv (fun k => k = rb) W V := cv.mv.mono fun k _ s => by obtain ⟨j, s, _⟩ := s; exact s
  have m2 : Mv (fun k => k = rb) W0 V := (Mv.below b0).trans' mV
  have nV : Qd.nbk v ≠ some rb := fun e => by have := hv rb e; omega
  refine ⟨fun k => k = rb ∨ Qd.nbk ve = some k ∨ Qd.nbk v = some k, ⟨ve, v, cv.cell (fun s => by have := s.2; omega) (bcell b0 lr c0), by rw [← hV]; exact World.cell?_setCell_same _ _ _ (bcell b0 lr c1), (cv.fr rb 0 lrW).trans ((bfroz b0 lr).trans f0), (cv.fr rb 1 lrW).trans ((bfroz b0 lr).trans f1), sl.mv m2 (fun k hk e => n0 (by have e' : k = rb := e; rw [← e']; exact hk)), sv.mv mV (fun k hk e => nV (by have e' : k = rb := e; rw [← e']; exact hk)), n0, nV, fun k hk e => ?_, fun k => Iff.rfl⟩, m2.mono fun k _ e => (hE k).2 (.inl e), fun k hk => ?_⟩
  · have := hv k e; have := sl.lt hk; omega
  · rcases hk with e | e | e
    · exact .inl ((hE k).2 (.inl e))
    · exact .inl ((hE k).2 (.inr (.inl e)))
    · exact .inr (hv k e)
end Go.Proofs.YtdcidlgmnnaahaaGreat
