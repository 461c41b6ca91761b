/- Elapse on a loop. -/
import Derived.Test.YtjcdjkfnmobhkaaGreatBm
namespace Go.Proofs.YtjcdjkfnmobhkaaGreat
open Go.RowKit Go.Shelf Go.Lib
attribute [local go_sem] Oper.semAt_some
def delA (xs T : List Du) : List Du := xs.foldl (fun S d => delT d.k S) T
theorem delA_snoc (xs T : List Du) (x : Du) : delA (xs ++ [x]) T = delT x.k (delA xs T) := by unfold delA; rw [List.foldl_append]; rfl
theorem delA_eq : ∀ (xs T : List Du), delA xs T = T.filter fun d => xs.all fun y => !decide (d.k = y.k)
  | [], T => by
    show T = T.filter fun _ => true
    exact (List.filter_eq_self.2 fun _ _ => rfl).symm
  | x :: xs, T => by
    show delA xs (delT x.k T) = _
    rw [delA_eq xs]
    unfold delT
    rw [List.filter_filter]
    refine List.filter_congr fun d _ => ?_
    simp [Bool.and_comm]
theorem delA_due {T : List Du} (hT : Ts T) (p : Du → Bool) : delA (T.filter p) T = T.filter fun d => !p d := by
  rw [delA_eq]
  refine List.filter_congr fun d hd => ?_
  cases hp : p d with
  | true =>
    rw [Bool.not_true, Bool.eq_false_iff]
    intro h
    rw [List.all_eq_true] at h
    have := h d (List.mem_filter.2 ⟨hd, hp⟩)
    simp at this
  | false =>
    rw [Bool.not_false, List.all_eq_true]
    intro y hy
    obtain ⟨hy1, hy2⟩ := List.mem_filter.1 hy
    have : ¬ d.k = y.k := fun e => by rw [hT.one hd hy1 e, hy2] at hp; cases hp
    simp [this]
set_option maxRecDepth 100000 in
set_option maxHeartbeats 1000000 in
theorem due_any (lb : Nat) (now : Int) (w : World) : Calls Tryz.prog 36 #[lp lb, .int .i64 now] w fun e V => e = .returned (.func (.func 53) #[] #[.pointer (some ⟨w.heap.size, 0, none⟩), .pointer (some ⟨w.heap.size + 1, 0, none⟩)]) ∧ V = (w.alloc (.cells #[lp lb] 24)).alloc (.cells #[.int .i64 now] 2) := by
  unfold lp
  go_enter Tryz.func36, Tryz.ntmps36
  go_wp2_with fail
  go_ret
  exact ⟨by simp, rfl⟩
theorem eg_due : ∀ args w, (callFunc 53 args).run Tryz.prog w = .ok (.enter 53 args) w := enters_of Tryz.func53 (by kernel_rfl) rfl
set_option maxRecDepth 100000 in
set_option maxHeartbeats 4000000 in
theorem elapse_any {w : World} {lb : Nat} {E : Nat → Prop} {L : List Wt} {n : Nat} {T : List Du} (h : Lo w lb E L n T) (now : Int) :
    Calls Tryz.prog 16 #[lp lb, .int .i64 now] w fun e V => ∃ v, e = .returned v ∧ Md.SV V v (T.filter fun d => decide (d.t ≤ now)) ∧ Lo V lb E L n (T.filter fun d => !decide (d.t ≤ now)) ∧ Mv E w V ∧ ∀ k, Qd.nbk v = some k → w.heap.size ≤ k := by
  have hT := h.ts
  have lE := h.lt.1
  have hTl := h.tlen
  obtain ⟨xs, hxs⟩ : ∃ xs, (T.filter fun d => decide (d.t ≤ now)) = xs := ⟨_, rfl⟩
  have hxl : xs.length ≤ 100000 := by rw [← hxs]; exact Nat.le_trans (List.length_filter_le _ _) hTl
  have hend : Hid (delA xs T = T.filter fun d => !decide (d.t ≤ now)) := by show _ = _; rw [← hxs]; exact delA_due hT _
  rw [← hend.out, hxs]
  obtain ⟨N, hN⟩ : ∃ N, w.heap.size = N := ⟨_, rfl⟩
  obtain ⟨W0, hW0⟩ : ∃ W0, (w.alloc (.cells #[lp lb] 24)).alloc (.cells #[.int .i64 now] 2) = W0 := ⟨_, rfl⟩
  have b0 : Below w.heap.size w W0 := by rw [← hW0]; exact ((Below.refl _ _).alloc (Nat.le_refl _) _).alloc (by simp) _
  have s0 : W0.heap.size = N + 2 := by rw [← hW0]; simp [hN]
  have hD := due_any lb now w
  rw [hW0, hN] at hD
  have c0 : W0.cell? ⟨N, 0, none⟩ = some (lp lb) := by rw [← hW0]; exact (Mv.alloc (fun _ => False) _ _).cell (fun h => h) (cell_at hN rfl)
  have c1 : W0.cell? ⟨N + 1, 0, none⟩ = some (.int .i64 now) := by rw [← hW0]; exact cell_at (by simp [hN]) rfl
  have hC : Hid (Calls Tryz.prog 35 #[.func (.func 53) #[] #[.pointer (some ⟨N, 0, none⟩), .pointer (some ⟨N + 1, 0, none⟩)]] W0 fun e V => ∃ p c, e = .returned (.slice p xs.length c) ∧ Md.SV V (.slice p xs.length c) xs ∧ Lo V lb E L n T ∧ Mv E w V ∧ (∀ k, Qd.nbk (.slice p xs.length c) = some k → N ≤ k)) := by
    refine (Md.collect_any xs _ _ eg_due W0 (fun W1 b1 => ?_) (by omega)).mono ?_
    · have l1 := (h.below b0).below b1
      rw [← hxs]
      have f : ∀ {k : Nat} {v : Value}, k < N + 2 → W0.cell? ⟨k, 0, none⟩ = some v → W1.cell? ⟨k, 0, none⟩ = some v := fun {k v} hk c => bcell b1 (by omega) c
      exact due_row _ W1 l1 (f (by omega) c0) (f (by omega) c1) (fun k hk e => by have := lE k hk; omega) (fun e => by omega) (fun e => by omega)
    · rintro e V ⟨v, rfl, sv, b, hv⟩
      obtain ⟨p, c, rfl⟩ := sv.shape
      have bb : Below w.heap.size w V := b0.trans (b.mono b0.size)
      exact ⟨p, c, rfl, sv, h.below bb, Mv.below bb, fun k hk => by have := hv k hk; omega⟩
  have lEH := hidP lE
  have hTH := hidP hT
  have hNH := hidP hN
  have llb : Hid (E lb) := h.lt.2
  obtain ⟨m, hm⟩ : ∃ m, xs.length = m := ⟨_, rfl⟩
  rw [hm] at hC hxl
  have hmH := hidP hm
  have hmI : (m : Int) ≤ 100000 := by omega
  clear h hT lE hN b0 s0 c0 c1 hm hxs hW0
  unfold lp at *
  go_enter Tryz.func16, Tryz.ntmps16
  go_wp2_with fail
  refine hD.mono ?_
  rintro e V1 ⟨rfl, rfl⟩
  go_wp2_with fail
  refine hC.out.mono ?_
  rintro e V2 ⟨p, c, rfl, sv, l2, m2, hv⟩
  have svH := hidP sv
  have l2H := hidP l2
  have m2H := hidP m2
  have hvH := hidP hv
  clear hD hC sv l2 m2 hv
  go_wp2_with fail
  go_loopw [14] (fun i wr => ∃ k : Nat, k ≤ m ∧ i = .int .i64 k ∧ Hid (Md.SV wr (.slice p m c) xs) ∧ Hid (Lo wr lb E L n (delA (xs.take k) T)) ∧ Hid (Mv E w wr)) (fun i _ => m - (intOf i).toNat)
  case atStart => exact ⟨0, Nat.zero_le _, rfl, svH, l2H, m2H⟩
  case round =>
    clear svH l2H m2H
    obtain ⟨k, hk, rfl, sv, l2, m2⟩ := hrel
    by_cases hlt : k < m
    · have hml := hmH.out
      obtain ⟨x, hx⟩ : ∃ x, xs[k]? = some x := ⟨_, List.getElem?_eq_getElem (by omega)⟩
      rcases sv.out with ⟨_, e⟩ | ⟨g, o, c', e, rs⟩
      · rw [e, List.length_nil] at hml; omega
      · injection e with e1 e2 e3
        subst e1
        have r0 := rs.ra.at hx
        have hkc : k < c := by have := rs.le; omega
        obtain ⟨r1, r2, r3⟩ := r0
        obtain ⟨W3, hW3⟩ : ∃ W3, wr.alloc (.cells #[.string x.u, .string x.w, .int .i64 x.t] 53) = W3 := ⟨_, rfl⟩
        obtain ⟨N3, hN3⟩ : ∃ N3, wr.heap.size = N3 := ⟨_, rfl⟩
        have b3 : Below wr.heap.size wr W3 := by rw [← hW3]; exact (Below.refl _ _).alloc (Nat.le_refl _) _
        have b3d : Below wr.heap.size wr W3.drew := b3.drew
        have l3 := l2.out.below b3d
        obtain ⟨mv, c5, f5, tm, sub, fin0⟩ := l3.tm
        obtain ⟨V, hrun, t1, m1⟩ := tm.drop x.k 0
        have nv : ∀ k, Qd.nbk (.slice (some ⟨g, o, none⟩) m c) = some k → ¬ mbk mv = some k := fun k hk e => by
          have h1 := hvH.out k hk
          have h2 := lEH.out k (sub k e).1
          have h3 := hNH.out
          omega
        have fin : Hid (Md.SV V (.slice (some ⟨g, o, none⟩) m c) xs ∧ Lo V lb E L n (delA (xs.take (k + 1)) T) ∧ Mv E w V) := by
          refine ⟨(sv.out.mv (F := fun _ => False) (Mv.below b3d) (fun _ _ h => h)).mv m1 nv, ?_, (m2.out.trans' (Mv.below b3d)).trans' (m1.mono fun k _ e => (sub k e).1)⟩
          rw [List.take_add_one, hx]
          show Lo V lb E L n (delA (xs.take k ++ [x]) T)
          rw [delA_snoc]
          exact fin0 V _ t1 (l3.ts.del x.k) (Nat.le_trans (List.length_filter_le _ _) l3.tlen) m1
        obtain ⟨xu, hxu⟩ : ∃ xu, x.u = xu := ⟨_, rfl⟩
        obtain ⟨xw, hxw⟩ : ∃ xw, x.w = xw := ⟨_, rfl⟩
        change (Builtin.delete_ #[71, 82] 0 #[mv, .agg #[.string x.u, .string x.w]]).run Tryz.prog W3.drew = _ at hrun
        rw [hxu] at hrun r1 hW3
        rw [hxw] at hrun r2 hW3
        have hS : (W3.drew.cell? ⟨N3, 0, none⟩ = some (.string xu) ∧ W3.drew.cell? ⟨N3, 1, none⟩ = some (.string xw)) ∧ W3.drew.cell? ⟨lb, 5, none⟩ = some mv := ⟨⟨by show W3.cell? _ = _; rw [← hW3]; exact cell_at hN3 rfl, by show W3.cell? _ = _; rw [← hW3]; exact cell_at hN3 rfl⟩, c5⟩
        clear sv l2 m2 rs b3 b3d l3 tm t1 m1 sub fin0 nv c5 f5 hml hx e2 e3 hxu hxw
        go_wp2_with (rw [hW3])
        refine Zs.region (S := fun W => (W.cell? ⟨N3, 0, none⟩ = some (.string xu) ∧ W.cell? ⟨N3, 1, none⟩ = some (.string xw)) ∧ W.cell? ⟨lb, 5, none⟩ = some mv) 9 (by kernel_rfl) ?_
        refine Zs.pure (i := 0) (oi := ⟨some 18, _, _, _, _, _⟩) (v := .pointer (some ⟨lb, 0, none⟩)) rfl (by kernel_rfl) (by kernel_rfl) (by kernel_rfl) (by decide) (fun _ _ _ h => h) (Or.inl ⟨by rfl, ?hy0⟩) hS ?_
        case hy0 => (intro w hSw; (try dsimp only at hSw); go_simp; try with_reducible rfl)
        simp only [Act.put, List.setIfInBounds_toArray, List.set_cons_zero, List.set_cons_succ]
        refine Zs.pure (i := 1) (oi := ⟨some 19, _, _, _, _, _⟩) (v := .pointer (some ⟨lb, 0, none⟩)) rfl (by kernel_rfl) (by kernel_rfl) (by kernel_rfl) (by decide) (fun _ _ _ h => h) (Or.inl ⟨by rfl, ?hy1⟩) hS ?_
        case hy1 => (intro w hSw; (try dsimp only at hSw); go_simp; try with_reducible rfl)
        simp only [Act.put, List.setIfInBounds_toArray, List.set_cons_zero, List.set_cons_succ]
        refine Zs.pure (i := 2) (oi := ⟨some 20, _, _, _, _, _⟩) (v := .pointer (some ⟨lb, 5, none⟩)) rfl (by kernel_rfl) (by kernel_rfl) (by kernel_rfl) (by decide) (fun _ _ _ h => h) (Or.inl ⟨by rfl, ?hy2⟩) hS ?_
        case hy2 => (intro w hSw; (try dsimp only at hSw); go_simp; try with_reducible rfl)
        simp only [Act.put, List.setIfInBounds_toArray, List.set_cons_zero, List.set_cons_succ]
        refine Zs.take (i := 3) (oi := ⟨some 21, _, _, _, _, _⟩) (v := mv) rfl (by kernel_rfl) (by kernel_rfl) (by kernel_rfl) (by decide) (by kernel_rfl) (by kernel_rfl) (fun _ _ _ h => h) (Or.inl ⟨by rfl, ?hy3⟩) hS ?_
        case hy3 => (intro w hSw; (try dsimp only at hSw); go_simp; try with_reducible rfl)
        simp only [Act.put, List.setIfInBounds_toArray, List.set_cons_zero, List.set_cons_succ]
        refine Zs.pure (i := 4) (oi := ⟨some 22, _, _, _, _, _⟩) (v := .pointer (some ⟨N3, 0, none⟩)) rfl (by kernel_rfl) (by kernel_rfl) (by kernel_rfl) (by decide) (fun _ _ _ h => h) (Or.inl ⟨by rfl, ?hy4⟩) hS ?_
        case hy4 => (intro w hSw; (try dsimp only at hSw); go_simp; try with_reducible rfl)
        simp only [Act.put, List.setIfInBounds_toArray, List.set_cons_zero, List.set_cons_succ]
        refine Zs.takeC (i := 5) (oi := ⟨some 23, _, _, _, _, _⟩) (v := .string xu) 10 rfl (by kernel_rfl) (by kernel_rfl) (by kernel_rfl) (by decide) (by kernel_rfl) (by kernel_rfl) (by kernel_rfl) (fun _ _ _ h => h) (Or.inl ⟨by rfl, ?hy5⟩) hS ?_
        case hy5 => (intro w hSw; (try dsimp only at hSw); go_simp; try with_reducible rfl)
        simp only [Act.put, List.setIfInBounds_toArray, List.set_cons_zero, List.set_cons_succ]
        refine Zs.pure (i := 6) (oi := ⟨some 24, _, _, _, _, _⟩) (v := .pointer (some ⟨N3, 1, none⟩)) rfl (by kernel_rfl) (by kernel_rfl) (by kernel_rfl) (by decide) (fun _ _ _ h => h) (Or.inl ⟨by rfl, ?hy6⟩) hS ?_
        case hy6 => (intro w hSw; (try dsimp only at hSw); go_simp; try with_reducible rfl)
        simp only [Act.put, List.setIfInBounds_toArray, List.set_cons_zero, List.set_cons_succ]
        refine Zs.takeC (i := 7) (oi := ⟨some 25, _, _, _, _, _⟩) (v := .string xw) 10 rfl (by kernel_rfl) (by kernel_rfl) (by kernel_rfl) (by decide) (by kernel_rfl) (by kernel_rfl) (by kernel_rfl) (fun _ _ _ h => h) (Or.inl ⟨by rfl, ?hy7⟩) hS ?_
        case hy7 => (intro w hSw; (try dsimp only at hSw); go_simp; try with_reducible rfl)
        simp only [Act.put, List.setIfInBounds_toArray, List.set_cons_zero, List.set_cons_succ]
        refine Zs.pure (i := 8) (oi := ⟨some 26, _, _, _, _, _⟩) (v := .agg #[.string xu, .string xw]) rfl (by kernel_rfl) (by kernel_rfl) (by kernel_rfl) (by decide) (fun _ _ _ h => h) (Or.inl ⟨by rfl, ?hy8⟩) hS ?_
        case hy8 => (intro w hSw; (try dsimp only at hSw); go_simp; try with_reducible rfl)
        simp only [Act.put, List.setIfInBounds_toArray, List.set_cons_zero, List.set_cons_succ]
        refine Zs.one (i := 9) (oi := ⟨none, _, _, _, _, _⟩) (by kernel_rfl) rfl (fun K hK => ?_)
        go_simp
        refine hK.out _ _ (fun q => absurd q (by decide)) ?_
        clear hK K
        try simp only [Act.put, List.setIfInBounds_toArray, List.set_cons_zero, List.set_cons_succ]
        refine Zs.done (by kernel_rfl) ?_ _
        clear hS
        go_wp2_with fail
        go_roundw
        case rel => exact ⟨k + 1, by omega, by go_num, fin.out.1, fin.out.2.1, fin.out.2.2⟩
        case measure => simp [intOf]; omega
    · have hkm : Hid (delA (xs.take k) T = delA xs T) := by
        show _ = _
        rw [List.take_of_length_le (by have := hmH.out; omega)]
      rw [hkm.out] at l2
      clear hkm
      go_wp2_with fail
      go_ret
      exact ⟨_, rfl, sv.out, l2.out, m2.out, fun k hk => Nat.le_trans (Nat.le_of_eq hNH.out) (hvH.out k hk)⟩
end Go.Proofs.YtjcdjkfnmobhkaaGreat
