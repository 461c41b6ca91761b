import Derived.Test.YtdcidlgmnnaahaaGreatBay
/- Timers, as a call. -/
namespace Go.Proofs.YtdcidlgmnnaahaaGreat
open Go.RowKit Go.Shelf Go.Lib
attribute [local go_sem] Oper.semAt_some
theorem timers_any (lb : Nat) (w : World) : Calls Tryz.prog 41 #[lp lb] w fun e V => e = .returned (.func (.func 49) #[] #[.pointer (some ⟨w.heap.size, 0, none⟩), .pointer (some ⟨w.heap.size + 1, 0, none⟩)]) ∧ V = (w.alloc (.cells #[lp lb] 24)).alloc (.cells #[.int .i64 9223372036854775807] 2) := by
  have hD := hidP (due_any lb 9223372036854775807 w)
  unfold lp at *
  go_enter Tryz.func41, Tryz.ntmps41
  go_wp2_with fail
  refine hD.out.mono ?_
  rintro e V ⟨rfl, rfl⟩
  go_wp2_with fail
  go_ret
  exact ⟨rfl, rfl⟩
end Go.Proofs.YtdcidlgmnnaahaaGreat
/- LoopPlays: the timers, gathered. -/
namespace Go.Proofs.YtdcidlgmnnaahaaGreat
open Go.RowKit Go.Shelf Go.Lib
attribute [local go_sem] Oper.semAt_some
set_option maxRecDepth 100000 in
set_option maxHeartbeats 4000000 in
theorem gather_takes {xs : List Du} {sb : Nat} {w : World} (hxs : xs.length ≤ 300) (hsb : w.heap.size = sb) (x : Du) (rest : List Du) (E2 : Nat → Prop) (U2 : World) (h : Md.AI [] xs (.slice none 0 0) sb w (x :: rest) E2 U2) :
    Calls Tryz.prog 42 #[.agg #[.string x.u, .string x.w, .int .i64 x.t], .pointer (some ⟨sb, 0, none⟩)] U2 fun e W' => e = .returned (.bool true) ∧ Mv E2 U2 W' ∧ ∃ E', Gr E2 U2 E' ∧ Md.AI [] xs (.slice none 0 0) sb w rest E' W' := by
  obtain ⟨v, done, e1, e2, e3, e4, e5, e6⟩ := h
  obtain ⟨N, hN⟩ : ∃ N, U2.heap.size = N := ⟨_, rfl⟩
  obtain ⟨B, hB⟩ : ∃ B, U2.alloc (.cells #[.string x.u, .string x.w, .int .i64 x.t] 68) = B := ⟨_, rfl⟩
  obtain ⟨A, hA⟩ : ∃ A, B.alloc (.cells #[.string x.u, .string x.w, .int .i64 x.t] 68) = A := ⟨_, rfl⟩
  have mB : ∀ F, Mv F U2 B := fun F => by rw [← hB]; exact Mv.alloc _ _ _
  have mA' : ∀ F, Mv F B A := fun F => by rw [← hA]; exact Mv.alloc _ _ _
  have mA : ∀ F, Mv F U2 A := fun F => (mB F).trans' (mA' F)
  have sB : B.heap.size = N + 1 := by rw [← hB]; simp [hN]
  have x0 : B.cell? ⟨N, 0, none⟩ = some (.string x.u) := by rw [← hB]; exact cell_at hN rfl
  have x1 : B.cell? ⟨N, 1, none⟩ = some (.string x.w) := by rw [← hB]; exact cell_at hN rfl
  have x2 : B.cell? ⟨N, 2, none⟩ = some (.int .i64 x.t) := by rw [← hB]; exact cell_at hN rfl
  have svA := e4.mv (mA fun _ => False) (fun _ _ h => h)
  have raA : Md.RA A (N + 1) 0 [x] := by
    intro j u hj
    rw [Nat.zero_add, ← hA]
    refine cell_at sB ?_
    match j, hj with
    | 0, hj => exact hj
    | 1, hj => exact hj
    | 2, hj => exact hj
    | j + 3, hj => simp [Md.flat] at hj
  have hdl : done.length + rest.length + 1 = xs.length := by rw [← e1]; simp; omega
  obtain ⟨v', A2, hrun, sv', m2, at2⟩ := svA.append raA (by rw [List.length_append, List.length_nil]; omega) 1
  obtain ⟨A3, hA3⟩ : ∃ A3, A2.setCell ⟨sb, 0, none⟩ v' = A3 := ⟨_, rfl⟩
  have n2 : ¬ Qd.nbk v = some sb := e5
  have cB := e3.mv (mB fun _ => False) (fun h => h)
  have cA2 := (e3.mv (mA fun _ => False) (fun h => h)).mv m2 n2
  have clA3 : Cl sb v' A3 := by rw [← hA3]; exact cA2.set v'
  have mS : Mv (fun k => k = sb) A2 A3 := by rw [← hA3]; exact Mv.set1 (E := fun k => k = sb) rfl _
  have szA : A.heap.size = N + 2 := by rw [← hA]; simp [sB]
  have hnU : sb < U2.heap.size := e3.lt
  have n3 : Qd.nbk v' ≠ some sb := fun e => by
    rcases at2 with q | ⟨k, q, hk⟩
    · exact e5 (q ▸ e)
    · rw [e] at q; injection q with q; omega
  have fin : Hid (Mv E2 U2 A3 ∧ ∃ E', Gr E2 U2 E' ∧ Md.AI [] xs (.slice none 0 0) sb w rest E' A3) := by
    refine ⟨(((mA E2).trans' (m2.mono fun k _ hk => (e2 k).2 (.inr hk))).trans' (mS.mono fun k _ hk => (e2 k).2 (.inl hk))), fun k => k = sb ∨ Qd.nbk v' = some k, fun k hk => ?_, v', done ++ [x], by rw [List.append_assoc]; exact e1, fun _ => Iff.rfl, clA3, ?_, n3, ?_⟩
    · rcases hk with hk | hk
      · exact .inl ((e2 k).2 (.inl hk))
      · rcases at2 with q | ⟨k', q, hk'⟩
        · exact .inl ((e2 k).2 (.inr (by rw [← q]; exact hk)))
        · rw [hk] at q; injection q with q; exact .inr (by omega)
    · rw [← List.append_assoc]
      exact sv'.mv mS (fun k hk e => n3 (e ▸ hk))
    · rcases at2 with q | ⟨k', q, hk'⟩
      · rcases e6 with z | ⟨k, z, hk⟩
        · exact .inl (q.trans z)
        · exact .inr ⟨k, q.trans z, hk⟩
      · exact .inr ⟨k', q, by omega⟩
  obtain ⟨pv, cvv, rfl⟩ := e4.shape
  obtain ⟨pv', cv', rfl⟩ := sv'.shape
  have ec := cB.c
  have ef := cA2.f
  have ec2 := cA2.c
  have ec3 := clA3.c
  obtain ⟨nd, hnd⟩ : ∃ nd, ([] ++ done : List Du).length = nd := ⟨_, rfl⟩
  obtain ⟨nd', hnd'⟩ : ∃ nd', ([] ++ done ++ [x] : List Du).length = nd' := ⟨_, rfl⟩
  have hle : (nd' : Int) ≤ 300 := by
    rw [List.length_append, List.length_append, List.length_nil, List.length_singleton] at hnd'
    omega
  rw [hnd] at hrun ec ec2
  rw [hnd'] at hrun hA3 ec3
  rw [← sB] at hrun
  obtain ⟨xu, hxu⟩ : ∃ xu, x.u = xu := ⟨_, rfl⟩
  obtain ⟨xw, hxw⟩ : ∃ xw, x.w = xw := ⟨_, rfl⟩
  rw [hxu] at x0 hB hA ⊢
  rw [hxw] at x1 hB hA ⊢
  clear sv' m2 at2 e1 e2 e3 e4 e5 e6 n2 clA3 mS n3 svA raA mA mB mA' hdl cA2 cB hnd hnd' szA hnU hxu hxw sB
  go_enter Tryz.func42, Tryz.ntmps42
  go_wp2_with (first | rw [hB] | rw [hA] | rw [hA3] | (at_builtin; refine wpList_append_run rfl _ _ 28 rfl _ _ _ _ rfl rfl hrun ?_))
  go_ret
  exact ⟨by first | rfl | simp, fin.out⟩
end Go.Proofs.YtdcidlgmnnaahaaGreat
/- LoopPlays: the timers, gathered: the whole. -/
namespace Go.Proofs.YtdcidlgmnnaahaaGreat
open Go.RowKit Go.Shelf Go.Lib
attribute [local go_sem] Oper.semAt_some
set_option maxRecDepth 100000 in
set_option maxHeartbeats 4000000 in
theorem timersl_any {w : World} {lb n : Nat} {El : Nat → Prop} {L : List Wt} {T : List Du} (h : Lo w lb El L n T) (hT : ∀ d ∈ T, d.t ≤ 9223372036854775807) (hl : T.length ≤ 300) :
    Calls Tryz.prog 24 #[lp lb] w fun e V => ∃ v, e = .returned v ∧ Md.SV V v T ∧ Below w.heap.size w V ∧ ∀ k, Qd.nbk v = some k → w.heap.size ≤ k := by
  obtain ⟨sb, hsb⟩ : ∃ sb, w.heap.size = sb := ⟨_, rfl⟩
  obtain ⟨W0, hW0⟩ : ∃ W0, w.alloc (.cells #[.slice none 0 0] 28) = W0 := ⟨_, rfl⟩
  have b0 : Below w.heap.size w W0 := by rw [← hW0]; exact (Below.refl _ _).alloc (Nat.le_refl _) _
  have s0 : W0.heap.size = sb + 1 := by rw [← hW0]; simp [hsb]
  have cl0 : Cl sb (.slice none 0 0) W0 := ⟨by rw [← hW0]; exact cell_at hsb rfl, by rw [← hW0]; exact froz_new hsb⟩
  obtain ⟨W5, hW5⟩ : ∃ W5, (W0.alloc (.cells #[lp lb] 24)).alloc (.cells #[.int .i64 9223372036854775807] 2) = W5 := ⟨_, rfl⟩
  have b5 : Below W0.heap.size W0 W5 := by rw [← hW5]; exact ((Below.refl _ _).alloc (Nat.le_refl _) _).alloc (by simp) _
  have z0 : W5.cell? ⟨W0.heap.size, 0, none⟩ = some (lp lb) := by rw [← hW5]; exact (Mv.alloc (fun _ => False) _ _).cell (fun h => h) (cell_at rfl rfl)
  have z1 : W5.cell? ⟨W0.heap.size + 1, 0, none⟩ = some (.int .i64 9223372036854775807) := by rw [← hW5]; exact cell_at (by simp) rfl
  have ef : (T.filter fun d => decide (d.t ≤ 9223372036854775807)) = T := List.filter_eq_self.2 fun d hd => by simpa using hT d hd
  have lo5 := (h.below b0).below b5
  have cl5 : Cl sb (.slice none 0 0) W5 := cl0.mv (Mv.below (E := fun _ => False) b5) (fun h => h)
  have hTm := timers_any lb W0
  have hD := due_plays sb (fun k => k = sb) W5 lo5 z0 z1 (Md.AI [] T (.slice none 0 0) sb w) Md.AI.ter (fun x rest E W h => gather_takes hl hsb x rest E W h) (by
    rw [ef]
    exact ⟨.slice none 0 0, [], rfl, fun k => ⟨.inl, fun h => h.elim id (fun e => by cases e)⟩, cl5, .inl ⟨rfl, rfl⟩, (fun e => by cases e), .inl rfl⟩)
  have hD' : Hid (Calls Tryz.prog 49 #[.func (.func 42) #[] #[.pointer (some ⟨sb, 0, none⟩)], .pointer (some ⟨sb + 1, 0, none⟩), .pointer (some ⟨sb + 1 + 1, 0, none⟩)] W5 fun e V => e = .returned (.tuple #[]) ∧ ∃ p l c, V.cell? ⟨sb, 0, none⟩ = some (.slice p l c) ∧ Md.SV V (.slice p l c) T ∧ Below w.heap.size w V ∧ ∀ k, Qd.nbk (.slice p l c) = some k → w.heap.size ≤ k) := by
    rw [s0] at hD
    refine hD.mono ?_
    rintro e V ⟨rfl, m, E', g, v, done, e1, e2, e3, e4, e5, e6⟩
    rw [List.append_nil] at e1
    subst e1
    obtain ⟨p, c, rfl⟩ := e4.shape
    refine ⟨rfl, p, _, c, e3.c, e4, (b0.trans (b5.mono b0.size)).trans (m.toBelow (Nat.le_trans b0.size b5.size) fun k hk e => by omega), fun k hk => ?_⟩
    rcases e6 with z | ⟨k', z, hk'⟩
    · rw [hk] at z; cases z
    · rw [hk] at z; injection z with z; omega
  unfold lp at hTm hW5
  rw [hW5, s0] at hTm
  have hTm' := hidP hTm
  clear h hT hl b0 s0 cl0 b5 z0 z1 ef lo5 cl5 hTm hD hW5
  unfold lp
  go_enter Tryz.func24, Tryz.ntmps24
  go_wp2_with (rw [hW0])
  refine hTm'.out.mono ?_
  rintro e V ⟨rfl, rfl⟩
  go_wp2_with fail
  refine hD'.out.mono ?_
  rintro e V ⟨rfl, p, l, c, cv, sv, bw, fr⟩
  have svH := hidP sv
  have bwH := hidP bw
  have frH := hidP fr
  clear hTm' hD' sv bw fr
  go_wp2_with fail
  go_ret
  exact ⟨_, rfl, svH.out, bwH.out, frH.out⟩
end Go.Proofs.YtdcidlgmnnaahaaGreat
