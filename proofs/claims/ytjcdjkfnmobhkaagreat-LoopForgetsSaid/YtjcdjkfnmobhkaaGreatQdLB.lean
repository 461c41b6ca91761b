/- least. -/
import Derived.Test.YtjcdjkfnmobhkaaGreatQdJB
import Derived.Test.YtjcdjkfnmobhkaaGreatBb
namespace Go.Proofs.YtjcdjkfnmobhkaaGreat.Qd
open Go.RowKit Go.Shelf Go.Lib
attribute [local go_sem] Oper.semAt_some
/-- What least tells: the row in its place. -/
def LP (w : World) (B : Nat → Prop) (F : List (Tr El)) (g o cap n : Nat) (e : Ending) (V : World) : Prop :=
  ∃ xs' B', e = .returned (slv g o xs'.length cap) ∧ RS V g o cap xs' ∧ RF V B' xs' F ∧ (∀ b, B b → B' b) ∧ Gr B w B' ∧ (∀ b, B' b → b < V.heap.size) ∧ Cv (fun k j => k = g ∧ o ≤ j ∧ j < o + n * 5) w V
/-- A row of trees that least takes. -/
structure Ls (key : El → Int) (w : World) (B : Nat → Prop) (xs : List Rec) (F : List (Tr El)) (g o cap : Nat) : Prop where
  rs : RS w g o cap xs
  rf : RF w B xs F
  up : ∀ x ∈ F, x.k.Up key (key x.v)
  ng : ∀ k, B k → k ≠ g
  lo : ∀ k, B k → k < w.heap.size
  len : xs.length ≤ 400000
theorem Ls.below {key : El → Int} {w V : World} {B : Nat → Prop} {xs : List Rec} {F : List (Tr El)} {g o cap : Nat} (h : Ls key w B xs F g o cap) (b : Below w.heap.size w V) : Ls key V B xs F g o cap :=
  have c := Cv.below (S := fun _ _ => False) b
  ⟨h.rs.cv c (fun _ _ _ h => h), RF.cv c (fun _ h => h) (fun _ _ _ h => h) _ _ h.rf, h.up, h.ng, fun k hk => Nat.lt_of_lt_of_le (h.lo k hk) b.size, h.len⟩
theorem RF.take {w : World} {B : Nat → Prop} : ∀ {xs : List Rec} {ys : List (Tr El)}, RF w B xs ys → ∀ k, RF w B (xs.take k) (ys.take k) ∧ RF w B (xs.drop k) (ys.drop k)
  | [], [], _, k => by simp [RF]
  | _ :: _, _ :: _, h, 0 => ⟨trivial, h⟩
  | _ :: _, _ :: _, h, k + 1 => ⟨⟨h.1, (RF.take h.2 k).1⟩, (RF.take h.2 k).2⟩
  | [], _ :: _, h, _ => h.elim
  | _ :: _, [], h, _ => h.elim
theorem Ls.halves {key : El → Int} {w : World} {B : Nat → Prop} {xs : List Rec} {F : List (Tr El)} {g o cap : Nat} (h : Ls key w B xs F g o cap) {k : Nat} (hk : k ≤ xs.length) : Ls key w B (xs.take k) (F.take k) g o cap ∧ Ls key w B (xs.drop k) (F.drop k) g (o + k * 5) (cap - k) := by
  have hra := h.rs.ra
  rw [← List.take_append_drop k xs] at hra
  obtain ⟨h1, h2⟩ := RA.app.1 hra
  have hl : (xs.take k).length = k := by rw [List.length_take]; omega
  rw [hl] at h2
  have hle := h.rs.le
  have hle2 := h.len
  refine ⟨⟨⟨by rw [hl]; omega, h.rs.rm, h1⟩, (h.rf.take k).1, fun x hx => h.up x (List.mem_of_mem_take hx), h.ng, h.lo, by rw [hl]; omega⟩, ⟨⟨by rw [List.length_drop]; omega, h.rs.rm.sub (by omega), h2⟩, (h.rf.take k).2, fun x hx => h.up x (List.mem_of_mem_drop hx), h.ng, h.lo, by rw [List.length_drop]; omega⟩⟩
set_option maxRecDepth 100000 in
set_option maxHeartbeats 2000000 in
theorem least_small {key : El → Int} {q : Nat} {w : World} {B : Nat → Prop} {xs : List Rec} {F : List (Tr El)} {g o cap : Nat} (h : Ls key w B xs F g o cap) (hl : xs.length < 2) :
    Calls Tryz.prog 108 #[qp q, slv g o xs.length cap] w (LP w B F g o cap xs.length) := by
  have fin : Hid (LP w B F g o cap xs.length (.returned (slv g o xs.length cap)) w) := ⟨xs, B, rfl, h.rs, h.rf, fun _ h => h, fun _ h => .inl h, h.lo, Cv.refl _ _⟩
  clear h
  obtain ⟨n, hn⟩ : ∃ n, xs.length = n := ⟨_, rfl⟩
  rw [hn] at hl fin ⊢
  have hlI : (n : Int) < 2 := by omega
  clear hn
  unfold qp slv at *
  go_enter Tryz.func108, Tryz.ntmps108
  go_wp2_with fail
  go_ret
  exact fin.out
set_option maxRecDepth 100000 in
set_option maxHeartbeats 4000000 in
theorem least_step {nb : NB} {key : El → Int} (hB : Bf nb key) {q : Nat} {N : Nat} (ih : ∀ {w : World} {B : Nat → Prop} {xs : List Rec} {F : List (Tr El)} {g o cap : Nat}, Ls key w B xs F g o cap → xs.length ≤ N + 1 → w.cell? ⟨q, 0, none⟩ = some (fnV nb) → q ≠ g → Calls Tryz.prog 108 #[qp q, slv g o xs.length cap] w (LP w B (leastL key N F) g o cap xs.length))
    {w : World} {B : Nat → Prop} {xs : List Rec} {F : List (Tr El)} {g o cap : Nat} (h : Ls key w B xs F g o cap) (hl : 2 ≤ xs.length) (hN : xs.length ≤ N + 2) (hq : w.cell? ⟨q, 0, none⟩ = some (fnV nb)) (nq : q ≠ g) :
    Calls Tryz.prog 108 #[qp q, slv g o xs.length cap] w (LP w B (joinL key (leastL key N (F.take (F.length / 2))) (leastL key N (F.drop (F.length / 2)))) g o cap xs.length) := by
  obtain ⟨n, hn⟩ : ∃ n, xs.length = n := ⟨_, rfl⟩
  obtain ⟨k, hk⟩ : ∃ k, n / 2 = k := ⟨_, rfl⟩
  have hd : Below w.heap.size w w.drew := (Below.refl _ _).drew
  obtain ⟨la, lb⟩ := (h.below hd).halves (k := k) (by omega)
  have hqd := bcell hd (cell_lt hq) hq
  have hC1 := hidP (ih la (by rw [List.length_take]; omega) hqd nq)
  have hC2 : Hid (∀ (V1 : World) (xs1 : List Rec) (B1 : Nat → Prop), RS V1 g o cap xs1 → RF V1 B1 xs1 (leastL key N (F.take k)) → (∀ b, B b → B1 b) → Gr B w.drew B1 → (∀ b, B1 b → b < V1.heap.size) → Cv (fun k' j => k' = g ∧ o ≤ j ∧ j < o + k * 5) w.drew V1 → Calls Tryz.prog 108 #[qp q, slv g (o + k * 5) (n - k) (cap - k)] V1 (fun e V2 => ∃ xs2 : List Rec, e = .returned (slv g (o + k * 5) xs2.length (cap - k)) ∧ Calls Tryz.prog 71 #[qp q, slv g o xs1.length cap, slv g (o + k * 5) xs2.length (cap - k)] V2 (LP w B (joinL key (leastL key N (F.take k)) (leastL key N (F.drop k))) g o cap n))) := by
    intro V1 xs1 B1 rs1 rf1 up1 gr1 lo1 cv1
    have hl1 : xs1.length ≤ k := by
      rw [rf1.len]
      refine Nat.le_trans (leastL_len _ _ _) ?_
      rw [List.length_take]; omega
    have hgl := lb.rs.rm.lt
    have ng1 : ∀ b, B1 b → b ≠ g := fun b hb => by
      rcases gr1 b hb with s | s
      · exact h.ng b s
      · omega
    have lb1 : Ls key V1 B1 (xs.drop k) (F.drop k) g (o + k * 5) (cap - k) := ⟨lb.rs.cv cv1 (fun j h1 h2 s => by have := s.2.2; omega), RF.cv cv1 up1 (fun b hb j s => h.ng b hb s.1) _ _ lb.rf, lb.up, ng1, lo1, lb.len⟩
    have hq1 : V1.cell? ⟨q, 0, none⟩ = some (fnV nb) := cv1.cell (fun s => nq s.1) hqd
    have hdl : (xs.drop k).length = n - k := by rw [List.length_drop, hn]
    have c2 := ih lb1 (by rw [hdl]; omega) hq1 nq
    rw [hdl] at c2
    refine c2.mono ?_
    rintro e V2 ⟨xs2, B2, rfl, rs2, rf2, up2, gr2, lo2, cv2⟩
    refine ⟨xs2, rfl, ?_⟩
    have hl2 : xs2.length ≤ n - k := by
      rw [rf2.len]
      refine Nat.le_trans (leastL_len _ _ _) ?_
      rw [List.length_drop, ← h.rf.len]; omega
    have ng2 : ∀ b, B2 b → b ≠ g := fun b hb => by
      rcases gr2 b hb with s | s
      · exact ng1 b s
      · have := rs1.rm.lt; omega
    have hFl : F.length = n := by rw [← h.rf.len, hn]
    obtain ⟨ma, fa⟩ := leastL_fl key N (F.take k) (by rw [List.length_take]; omega) (fun x hx => h.up x (List.mem_of_mem_take hx))
    obtain ⟨mb, fb⟩ := leastL_fl key N (F.drop k) (by rw [List.length_drop]; omega) (fun x hx => h.up x (List.mem_of_mem_drop hx))
    have hlen := h.len
    have T : Two key V2 B2 xs1 (leastL key N (F.take k)) g o cap xs2 (leastL key N (F.drop k)) g (o + k * 5) (cap - k) ma mb :=
      ⟨rs1.cv cv2 (fun j h1 h2 s => by have := s.2.1; omega), RF.cv cv2 up2 (fun b hb j s => ng1 b hb s.1) _ _ rf1, fa, leastL_ne _ _ _ (fun e => by have := congrArg List.length e; rw [List.length_take, List.length_nil] at this; omega), rs2, rf2, fb, leastL_ne _ _ _ (fun e => by have := congrArg List.length e; rw [List.length_drop, List.length_nil] at this; omega), ng2, ng2, lo2, fun j h1 h2 s => by have := s.2.2; omega, by omega, by omega⟩
    refine (join_any hB T (cv2.cell (fun s => nq s.1) hq1) nq nq).mono ?_
    rintro e V3 ⟨g', o', c', xs', B', rfl, rs3, rf3, up3, gr3, lo3, cv3, hat⟩
    have hcap := h.rs.le
    have sz1 := cv1.size
    have sz2 := cv2.size
    obtain ⟨rfl, rfl, rfl⟩ : g' = g ∧ o' = o ∧ c' = cap := by
      rcases hat with s | s
      · exact s
      · exact absurd s.1 (by omega)
    refine ⟨xs', B', rfl, rs3, rf3, fun b hb => up3 b (up2 b (up1 b hb)), fun b hb => ?_, lo3, ?_⟩
    · have hw : w.heap.size = w.drew.heap.size := rfl
      rcases gr3 b hb with s | s
      · rcases gr2 b s with s | s
        · exact (gr1 b s).imp id (fun z => by omega)
        · exact .inr (by omega)
      · exact .inr (by omega)
    · refine (((Cv.below hd).trans cv1 (fun k' j s => .inl ⟨s.1, s.2.1, by omega⟩)).trans cv2 (fun k' j s => .inl ⟨s.1, by omega, by omega⟩)).trans cv3 (fun k' j s => .inl ?_)
      rcases s with s | s
      · exact ⟨s.1, s.2.1, by omega⟩
      · exact ⟨s.1, by omega, by omega⟩
  have hFl : F.length / 2 = k := by rw [← h.rf.len, hn, hk]
  rw [hFl, hn]
  have htk : (xs.take k).length = k := by rw [List.length_take]; omega
  rw [htk] at hC1
  have hcap : Hid (n ≤ cap) := by show _ ≤ _; rw [← hn]; exact h.rs.le
  have hlen : n ≤ 400000 := by rw [← hn]; exact h.len
  have hl2 : ¬ (n : Int) < 2 := by omega
  have hkc : ¬ cap = k := by have := hcap.out; omega
  have hkn : k ≤ n := by omega
  have hkcap : k ≤ cap := by have := hcap.out; omega
  have hc0 : ¬ cap = 0 := by have := hcap.out; omega
  have hnc := hcap.out
  have hkI : ((n : Int)).tdiv 2 = (k : Int) := by rw [Int.tdiv_eq_ediv_of_nonneg (by omega)]; omega
  have hkI2 : ((n : Int)) / 2 = (k : Int) := by omega
  clear h hB ih hl hN hq nq hd la lb hqd hFl htk hn hk
  unfold qp slv at *
  go_enter Tryz.func108, Tryz.ntmps108
  go_wp2_with fail
  refine Zs.region (S := fun _ => True) 12 (by kernel_rfl) ?_
  refine Zs.pure (i := 0) (oi := ⟨some 13, _, _, _, _, _⟩) (v := ?v0) rfl (by kernel_rfl) (by kernel_rfl) (by kernel_rfl) (by decide) (fun _ _ _ h => h) (Or.inl ⟨by rfl, ?hy0⟩) trivial ?_
  case hy0 => (intro w hSw; (try dsimp only at hSw); go_simp; try with_reducible rfl)
  simp only [Act.put, List.setIfInBounds_toArray, List.set_cons_zero, List.set_cons_succ]
  refine Zs.pure (i := 1) (oi := ⟨some 14, _, _, _, _, _⟩) (v := ?v1) rfl (by kernel_rfl) (by kernel_rfl) (by kernel_rfl) (by decide) (fun _ _ _ h => h) (Or.inl ⟨by rfl, ?hy1⟩) trivial ?_
  case hy1 => (intro w hSw; (try dsimp only at hSw); go_simp; try with_reducible rfl)
  simp only [Act.put, List.setIfInBounds_toArray, List.set_cons_zero, List.set_cons_succ]
  refine Zs.pure (i := 2) (oi := ⟨some 15, _, _, _, _, _⟩) (v := ?v2) rfl (by kernel_rfl) (by kernel_rfl) (by kernel_rfl) (by decide) (fun _ _ _ h => h) (Or.inl ⟨by rfl, ?hy2⟩) trivial ?_
  case hy2 => (intro w hSw; (try dsimp only at hSw); go_simp; try with_reducible rfl)
  simp only [Act.put, List.setIfInBounds_toArray, List.set_cons_zero, List.set_cons_succ]
  refine Zs.pure (i := 3) (oi := ⟨some 16, _, _, _, _, _⟩) (v := ?v3) rfl (by kernel_rfl) (by kernel_rfl) (by kernel_rfl) (by decide) (fun _ _ _ h => h) (Or.inl ⟨by rfl, ?hy3⟩) trivial ?_
  case hy3 => (intro w hSw; (try dsimp only at hSw); go_simp; try with_reducible rfl)
  simp only [Act.put, List.setIfInBounds_toArray, List.set_cons_zero, List.set_cons_succ]
  refine Zs.pure (i := 4) (oi := ⟨some 17, _, _, _, _, _⟩) (v := .slice (some ⟨g, o, none⟩) k cap) rfl (by kernel_rfl) (by kernel_rfl) (by kernel_rfl) (by decide) (fun _ _ _ h => h) (Or.inl ⟨by rfl, ?hy4⟩) trivial ?_
  case hy4 => (intro w hSw; (try dsimp only at hSw); go_simp; try with_reducible rfl)
  simp only [Act.put, List.setIfInBounds_toArray, List.set_cons_zero, List.set_cons_succ]
  refine Zs.pure (i := 6) (oi := ⟨some 19, _, _, _, _, _⟩) (v := ?v6) rfl (by kernel_rfl) (by kernel_rfl) (by kernel_rfl) (by decide) (fun _ _ _ h => h) (Or.inl ⟨by rfl, ?hy6⟩) trivial ?_
  case hy6 => (intro w hSw; (try dsimp only at hSw); go_simp; try with_reducible rfl)
  simp only [Act.put, List.setIfInBounds_toArray, List.set_cons_zero, List.set_cons_succ]
  refine Zs.pure (i := 7) (oi := ⟨some 20, _, _, _, _, _⟩) (v := ?v7) rfl (by kernel_rfl) (by kernel_rfl) (by kernel_rfl) (by decide) (fun _ _ _ h => h) (Or.inl ⟨by rfl, ?hy7⟩) trivial ?_
  case hy7 => (intro w hSw; (try dsimp only at hSw); go_simp; try with_reducible rfl)
  simp only [Act.put, List.setIfInBounds_toArray, List.set_cons_zero, List.set_cons_succ]
  refine Zs.pure (i := 8) (oi := ⟨some 21, _, _, _, _, _⟩) (v := ?v8) rfl (by kernel_rfl) (by kernel_rfl) (by kernel_rfl) (by decide) (fun _ _ _ h => h) (Or.inl ⟨by rfl, ?hy8⟩) trivial ?_
  case hy8 => (intro w hSw; (try dsimp only at hSw); go_simp; try with_reducible rfl)
  simp only [Act.put, List.setIfInBounds_toArray, List.set_cons_zero, List.set_cons_succ]
  refine Zs.pure (i := 9) (oi := ⟨some 22, _, _, _, _, _⟩) (v := .slice (some ⟨g, o + k * 5, none⟩) (n - k) (cap - k)) rfl (by kernel_rfl) (by kernel_rfl) (by kernel_rfl) (by decide) (fun _ _ _ h => h) (Or.inl ⟨by rfl, ?hy9⟩) trivial ?_
  case hy9 => (intro w hSw; (try dsimp only at hSw); go_simp; try with_reducible rfl)
  simp only [Act.put, List.setIfInBounds_toArray, List.set_cons_zero, List.set_cons_succ]
  refine Zs.one (i := 5) (oi := ⟨some 18, _, _, _, _, _⟩) (by kernel_rfl) rfl (fun K hK => ?_)
  go_simp
  refine hC1.out.mono ?_
  rintro e V1 ⟨xs1, B1, rfl, rs1, rf1, up1, gr1, lo1, cv1⟩
  have hU := hidP (hC2.out V1 xs1 B1 rs1 rf1 up1 gr1 lo1 cv1)
  clear rs1 rf1 up1 gr1 lo1 cv1 hC1 hC2
  go_wp2_with fail
  refine hK.out _ _ (fun _ => trivial) ?_
  clear hK K
  try simp only [Act.put, List.setIfInBounds_toArray, List.set_cons_zero, List.set_cons_succ]
  refine Zs.one (i := 10) (oi := ⟨some 23, _, _, _, _, _⟩) (by kernel_rfl) rfl (fun K hK => ?_)
  go_simp
  refine hU.out.mono ?_
  rintro e V2 ⟨xs2, rfl, hj⟩
  have hjH := hidP hj
  clear hj hU
  go_wp2_with fail
  refine hK.out _ _ (fun _ => trivial) ?_
  clear hK K
  try simp only [Act.put, List.setIfInBounds_toArray, List.set_cons_zero, List.set_cons_succ]
  refine Zs.one (i := 11) (oi := ⟨some 24, _, _, _, _, _⟩) (by kernel_rfl) rfl (fun K hK => ?_)
  go_simp
  refine hjH.out.mono ?_
  rintro e V3 h3
  obtain ⟨xs3, B3, rfl, h3'⟩ := id h3
  have h3H := hidP h3
  clear h3 h3' hjH
  go_wp2_with fail
  refine hK.out _ _ (fun _ => trivial) ?_
  clear hK K
  try simp only [Act.put, List.setIfInBounds_toArray, List.set_cons_zero, List.set_cons_succ]
  refine Zs.one (i := 12) (oi := ⟨some 4, _, _, _, _, _⟩) (by kernel_rfl) rfl (fun K hK => ?_)
  go_simp
  refine hK.out _ _ (fun q => absurd q (by decide)) ?_
  clear hK K
  try simp only [Act.put, List.setIfInBounds_toArray, List.set_cons_zero, List.set_cons_succ]
  refine Zs.done (by kernel_rfl) ?_ _
  go_wp2_with fail
  go_ret
  exact h3H.out
theorem least_any {nb : NB} {key : El → Int} (hB : Bf nb key) {q : Nat} : ∀ (N : Nat) {w : World} {B : Nat → Prop} {xs : List Rec} {F : List (Tr El)} {g o cap : Nat}, Ls key w B xs F g o cap → xs.length ≤ N + 1 → w.cell? ⟨q, 0, none⟩ = some (fnV nb) → q ≠ g → Calls Tryz.prog 108 #[qp q, slv g o xs.length cap] w (LP w B (leastL key N F) g o cap xs.length)
  | 0, _, _, _, _, _, _, _, h, hl, _, _ => least_small h (by omega)
  | N + 1, _, _, xs, F, _, _, _, h, hl, hq, nq => by
    have e := h.rf.len
    unfold leastL
    by_cases h2 : xs.length < 2
    · rw [if_pos (by omega)]
      exact least_small h h2
    · rw [if_neg (by omega)]
      exact least_step hB (fun h hl hq nq => least_any hB N h hl hq nq) h (by omega) (by omega) hq nq
end Go.Proofs.YtjcdjkfnmobhkaaGreat.Qd
