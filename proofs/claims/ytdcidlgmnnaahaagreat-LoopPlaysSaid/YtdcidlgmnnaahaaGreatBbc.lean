import Derived.Test.YtdcidlgmnnaahaaGreatBbb
/- LoopPlays: both sides compared. -/
namespace Go.Proofs.YtdcidlgmnnaahaaGreat
open Go.RowKit Go.Shelf Go.Lib
attribute [local go_sem] Oper.semAt_some
set_option maxRecDepth 100000 in
set_option maxHeartbeats 4000000 in
theorem dues_same {w : World} {v v' : Value} {xs : List Du} (h : Md.SV w v xs) (h' : Md.SV w v' xs) (hl : xs.length ≤ 100000) :
    Calls Tryz.prog 12 #[v, v'] w fun e V => e = .returned (.bool true) ∧ Below w.heap.size w V := by
  obtain ⟨p, c, hv⟩ := h.shape
  obtain ⟨p', c', hv'⟩ := h'.shape
  obtain ⟨m, hm⟩ : ∃ m, xs.length = m := ⟨_, rfl⟩
  rw [hm] at hv hv' hl
  subst hv hv'
  have hmI : (m : Int) ≤ 100000 := by omega
  have hH := hidP h
  have hH' := hidP h'
  have hmH := hidP hm
  clear h h' hm hl
  go_enter Tryz.func12, Tryz.ntmps12
  go_wp2_with fail
  go_loopw [5] (fun s wr => ∃ i : Nat, i ≤ m ∧ s = .int .i64 i ∧ Hid (Below w.heap.size w wr)) (fun s _ => m - (intOf s).toNat)
  case atStart => exact ⟨0, Nat.zero_le _, rfl, hidP (Below.refl _ _)⟩
  case round =>
    obtain ⟨i, hi, rfl, hb⟩ := hrel
    by_cases hlt : i < m
    · obtain ⟨x, hx⟩ : ∃ x, xs[i]? = some x := ⟨_, List.getElem?_eq_getElem (by have := hmH.out; omega)⟩
      have sv := hH.out.mv (F := fun _ => False) (Mv.below hb.out) (fun _ _ h => h)
      have sv' := hH'.out.mv (F := fun _ => False) (Mv.below hb.out) (fun _ _ h => h)
      have hml := hmH.out
      rcases sv with ⟨_, e⟩ | ⟨g, o, c1, e, rs⟩
      · rw [e, List.length_nil] at hml; omega
      · rcases sv' with ⟨_, e'⟩ | ⟨g', o', c1', e', rs'⟩
        · rw [e', List.length_nil] at hml; omega
        · injection e with e1 e2 e3
          injection e' with e1' e2' e3'
          subst e1 e1'
          obtain ⟨r0, r1, r2⟩ := rs.ra.at hx
          obtain ⟨t0, t1, t2⟩ := rs'.ra.at hx
          have hic : i < c := by have := rs.le; omega
          have hic' : i < c' := by have := rs'.le; omega
          obtain ⟨z0, hz0⟩ : ∃ z, x.u = z := ⟨_, rfl⟩
          obtain ⟨z1, hz1⟩ : ∃ z, x.w = z := ⟨_, rfl⟩
          obtain ⟨z2, hz2⟩ : ∃ z, x.t = z := ⟨_, rfl⟩
          rw [hz0] at r0 t0
          rw [hz1] at r1 t1
          rw [hz2] at r2 t2
          have hbd : Hid (∀ nq, Below w.heap.size w (wr.drewN nq)) := fun nq => below_drewN hb.out nq
          have hlI : (i : Int) < (m : Int) := by omega
          clear rs rs' hx e2 e3 e2' e3' hz0 hz1 hz2 hb
          go_wp2_with fail
          go_quiet (fail)
          go_wp2_with fail
          go_roundw
          case rel => exact ⟨i + 1, by omega, by go_num, hidP (hbd.out nq)⟩
          case measure => simp [intOf]; omega
    · go_wp2_with fail
      go_ret
      exact ⟨rfl, hb.out⟩
set_option maxRecDepth 100000 in
set_option maxHeartbeats 4000000 in
theorem events_same {w : World} {v v' : Value} {xs : List Wt} (h : Me.SV w v xs) (h' : Me.SV w v' xs) (hl : xs.length ≤ 100000) :
    Calls Tryz.prog 22 #[v, v'] w fun e V => e = .returned (.bool true) ∧ Below w.heap.size w V := by
  obtain ⟨p, c, hv⟩ := h.shape
  obtain ⟨p', c', hv'⟩ := h'.shape
  obtain ⟨m, hm⟩ : ∃ m, xs.length = m := ⟨_, rfl⟩
  rw [hm] at hv hv' hl
  subst hv hv'
  have hmI : (m : Int) ≤ 100000 := by omega
  have hH := hidP h
  have hH' := hidP h'
  have hmH := hidP hm
  clear h h' hm hl
  go_enter Tryz.func22, Tryz.ntmps22
  go_wp2_with fail
  go_loopw [5] (fun s wr => ∃ i : Nat, i ≤ m ∧ s = .int .i64 i ∧ Hid (Below w.heap.size w wr)) (fun s _ => m - (intOf s).toNat)
  case atStart => exact ⟨0, Nat.zero_le _, rfl, hidP (Below.refl _ _)⟩
  case round =>
    obtain ⟨i, hi, rfl, hb⟩ := hrel
    by_cases hlt : i < m
    · obtain ⟨x, hx⟩ : ∃ x, xs[i]? = some x := ⟨_, List.getElem?_eq_getElem (by have := hmH.out; omega)⟩
      have sv := hH.out.mv (F := fun _ => False) (Mv.below hb.out) (fun _ _ h => h)
      have sv' := hH'.out.mv (F := fun _ => False) (Mv.below hb.out) (fun _ _ h => h)
      have hml := hmH.out
      rcases sv with ⟨_, e⟩ | ⟨g, o, c1, e, rs⟩
      · rw [e, List.length_nil] at hml; omega
      · rcases sv' with ⟨_, e'⟩ | ⟨g', o', c1', e', rs'⟩
        · rw [e', List.length_nil] at hml; omega
        · injection e with e1 e2 e3
          injection e' with e1' e2' e3'
          subst e1 e1'
          obtain ⟨r0, r1, r2, r3, r4⟩ := rs.ra.at hx
          obtain ⟨t0, t1, t2, t3, t4⟩ := rs'.ra.at hx
          have hic : i < c := by have := rs.le; omega
          have hic' : i < c' := by have := rs'.le; omega
          obtain ⟨z0, hz0⟩ : ∃ z, x.k = z := ⟨_, rfl⟩
          obtain ⟨z1, hz1⟩ : ∃ z, x.p = z := ⟨_, rfl⟩
          obtain ⟨z2, hz2⟩ : ∃ z, x.s = z := ⟨_, rfl⟩
          obtain ⟨z3, hz3⟩ : ∃ z, x.u = z := ⟨_, rfl⟩
          obtain ⟨z4, hz4⟩ : ∃ z, x.x = z := ⟨_, rfl⟩
          rw [hz0] at r0 t0
          rw [hz1] at r1 t1
          rw [hz2] at r2 t2
          rw [hz3] at r3 t3
          rw [hz4] at r4 t4
          have hbd : Hid (∀ nq, Below w.heap.size w (wr.drewN nq)) := fun nq => below_drewN hb.out nq
          have hlI : (i : Int) < (m : Int) := by omega
          clear rs rs' hx e2 e3 e2' e3' hz0 hz1 hz2 hz3 hz4 hb
          go_wp2_with fail
          go_quiet (fail)
          go_wp2_with fail
          go_roundw
          case rel => exact ⟨i + 1, by omega, by go_num, hidP (hbd.out nq)⟩
          case measure => simp [intOf]; omega
    · go_wp2_with fail
      go_ret
      exact ⟨rfl, hb.out⟩
end Go.Proofs.YtdcidlgmnnaahaaGreat
/- LoopPlays: the document's loop in memory; its Soonest, At. -/
namespace Go.Proofs.YtdcidlgmnnaahaaGreat
open Go.RowKit Go.Shelf Go.Lib
attribute [local go_sem] Oper.semAt_some
/-- The document's loop: what waits, what is set. -/
def Rl (W : World) (rb : Nat) (E : Nat → Prop) (L : List Wt) (T : List Du) : Prop :=
  ∃ ve vt, W.cell? ⟨rb, 0, none⟩ = some ve ∧ W.cell? ⟨rb, 1, none⟩ = some vt ∧ W.frozen? ⟨rb, 0, none⟩ = false ∧ W.frozen? ⟨rb, 1, none⟩ = false ∧ Me.SV W ve L ∧ Md.SV W vt T ∧ Qd.nbk ve ≠ some rb ∧ Qd.nbk vt ≠ some rb ∧ (∀ k, Qd.nbk ve = some k → Qd.nbk vt ≠ some k) ∧ ∀ k, E k ↔ (k = rb ∨ Qd.nbk ve = some k ∨ Qd.nbk vt = some k)
theorem Rl.lt {W : World} {rb : Nat} {E : Nat → Prop} {L : List Wt} {T : List Du} (h : Rl W rb E L T) {k : Nat} (hk : E k) : k < W.heap.size := by
  obtain ⟨ve, vt, c0, c1, f0, f1, sl, st, n0, n1, n2, hE⟩ := h
  rcases (hE k).1 hk with rfl | e | e
  · exact cell_lt c0
  · exact sl.lt e
  · exact st.lt e
theorem Rl.mv {F : Nat → Prop} {W V : World} {rb : Nat} {E : Nat → Prop} {L : List Wt} {T : List Du} (h : Rl W rb E L T) (m : Mv F W V) (hF : ∀ k, E k → ¬ F k) : Rl V rb E L T := by
  obtain ⟨ve, vt, c0, c1, f0, f1, sl, st, n0, n1, n2, hE⟩ := h
  have nr : ¬ F rb := hF rb ((hE rb).2 (.inl rfl))
  exact ⟨ve, vt, m.cell (a := ⟨rb, 0, none⟩) nr c0, m.cell (a := ⟨rb, 1, none⟩) nr c1, (m.froz (a := ⟨rb, 0, none⟩) nr (cell_lt c0)).trans f0, (m.froz (a := ⟨rb, 1, none⟩) nr (cell_lt c1)).trans f1, sl.mv m (fun k hk => hF k ((hE k).2 (.inr (.inl hk)))), st.mv m (fun k hk => hF k ((hE k).2 (.inr (.inr hk)))), n0, n1, n2, hE⟩
set_option maxRecDepth 100000 in
set_option maxHeartbeats 2000000 in
theorem rsoon_any {W : World} {rb : Nat} {E : Nat → Prop} {L : List Wt} {T : List Du} (h : Rl W rb E L T) :
    Calls Tryz.prog 19 #[.pointer (some ⟨rb, 0, none⟩)] W fun e V => e = .returned (.int .i64 ((T.map fun d => d.t).headD 9223372036854775807)) ∧ V = W := by
  obtain ⟨ve, vt, c0, c1, f0, f1, sl, st, n0, n1, n2, hE⟩ := h
  clear c0 f0 f1 sl n0 n1 n2 hE
  rcases st with ⟨rfl, rfl⟩ | ⟨g, o, c, rfl, rs⟩
  · go_enter Tryz.func19, Tryz.ntmps19
    go_wp2_with fail
    go_ret
    exact ⟨rfl, rfl⟩
  · cases T with
    | nil =>
      rw [List.length_nil] at c1
      clear rs
      go_enter Tryz.func19, Tryz.ntmps19
      go_wp2_with fail
      go_ret
      exact ⟨rfl, rfl⟩
    | cons d T =>
      obtain ⟨_, _, r2⟩ := rs.ra.at (j := 0) (x := d) rfl
      obtain ⟨m, hm⟩ : ∃ m, (d :: T).length = m := ⟨_, rfl⟩
      rw [hm] at c1
      have hm0 : 0 < m := by rw [← hm, List.length_cons]; omega
      have hmI : (0 : Int) < (m : Int) := by omega
      have hmc : m ≤ c := by rw [← hm]; exact rs.le
      have hmx : (m : Int) ≤ 9223372036854775807 := by
        have := rs.rm.mx
        unfold maxLen at this
        omega
      have hne : ¬ (m : Int) = 0 := by omega
      have hneN : ¬ m = 0 := by omega
      simp only [Nat.zero_mul, Nat.add_zero] at r2
      obtain ⟨dt, hdt⟩ : ∃ dt, d.t = dt := ⟨_, rfl⟩
      rw [hdt] at r2
      have fin : Hid (((d :: T).map fun d => d.t).headD 9223372036854775807 = dt) := hdt
      clear rs hm hdt
      go_enter Tryz.func19, Tryz.ntmps19
      go_wp2_with fail
      go_ret
      exact ⟨by rw [fin.out]; rfl, rfl⟩
set_option maxRecDepth 100000 in
set_option maxHeartbeats 4000000 in
theorem rat_any {W : World} {rb : Nat} {E : Nat → Prop} {L : List Wt} {T : List Du} (h : Rl W rb E L T) (hT : Ts T) (hl : T.length ≤ 100000) (k : TK) :
    Calls Tryz.prog 21 #[.pointer (some ⟨rb, 0, none⟩), .string k.1.1, .string k.1.2] W fun e V => e = .returned (.int .i64 ((lk T k).getD 9223372036854775807)) ∧ V = W := by
  obtain ⟨ve, vt, c0, c1, f0, f1, sl, st, n0, n1, n2, hE⟩ := h
  obtain ⟨p, c, hv⟩ := st.shape
  obtain ⟨m, hm⟩ : ∃ m, T.length = m := ⟨_, rfl⟩
  rw [hm] at hv hl
  subst hv
  have hmI : (m : Int) ≤ 100000 := by omega
  have hkk : ∀ d : Du, d.k = k ↔ (d.u = k.1.1 ∧ d.w = k.1.2) := fun d => ⟨fun e => ⟨congrArg (fun t : TK => t.1.1) e, congrArg (fun t : TK => t.1.2) e⟩, fun e => Subtype.ext (Prod.ext e.1 e.2)⟩
  obtain ⟨a, ha⟩ : ∃ a, k.1.1 = a := ⟨_, rfl⟩
  obtain ⟨b, hb⟩ : ∃ b, k.1.2 = b := ⟨_, rfl⟩
  rw [ha, hb]
  rw [ha, hb] at hkk
  have hkH := hidP hkk
  have stH := hidP st
  have hTH := hidP hT
  have hmH := hidP hm
  clear c0 f0 f1 sl st n0 n1 n2 hE hT hl hkk ha hb hm
  go_enter Tryz.func21, Tryz.ntmps21
  go_wp2_with fail
  go_loop [7] (fun s => ∃ i : Nat, i ≤ m ∧ s = .int .i64 i ∧ Hid (∀ d ∈ T.take i, d.k ≠ k)) (fun s => m - (intOf s).toNat)
  case atStart => exact ⟨0, Nat.zero_le _, rfl, hidP (fun d hd => by simp at hd)⟩
  case round =>
    obtain ⟨i, hi, rfl, hn⟩ := hrel
    by_cases hlt : i < m
    · obtain ⟨x, hx⟩ : ∃ x, T[i]? = some x := ⟨_, List.getElem?_eq_getElem (by have := hmH.out; omega)⟩
      have hml := hmH.out
      rcases stH.out with ⟨_, e⟩ | ⟨g, o, c', e, rs⟩
      · rw [e, List.length_nil] at hml; omega
      · injection e with e1 e2 e3
        subst e1
        obtain ⟨r0, r1, r2⟩ := rs.ra.at hx
        have hic : i < c := by have := rs.le; omega
        have hlI : (i : Int) < (m : Int) := by omega
        have hnx : ¬ x.k = k → Hid (∀ d ∈ T.take (i + 1), d.k ≠ k) := fun hne d hd => by
          rw [List.take_add_one, hx] at hd
          rcases List.mem_append.1 hd with h | h
          · exact hn.out d h
          · have e : d = x := by simpa using h
            rw [e]; exact hne
        have hxm := List.mem_of_getElem? hx
        by_cases hu : x.u = a
        · have hub : (x.u.toList == a.toList) = true := by rw [beqT]; simpa using hu
          by_cases hw : x.w = b
          · have hwb : (x.w.toList == b.toList) = true := by rw [beqT]; simpa using hw
            have fin : Hid ((lk T k).getD 9223372036854775807 = x.t) := by
              have e := (hkH.out x).2 ⟨hu, hw⟩
              have := lk_some hTH.out hxm
              rw [e] at this
              show _ = _
              rw [this]; rfl
            clear rs hx e2 e3 hnx hxm hu hw hml hn
            go_wp2_with fail
            go_ret
            exact ⟨by rw [fin.out]; rfl, rfl⟩
          · have hwb : (x.w.toList == b.toList) = false := by rw [beqT]; simpa using hw
            have hn2 := hnx (fun e => hw ((hkH.out x).1 e).2)
            clear rs hx e2 e3 hnx hxm hu hw hml hn
            go_wp2_with fail
            go_round
            case rel => exact ⟨i + 1, by omega, by go_num, hn2⟩
            case measure => simp [intOf]; omega
        · have hub : (x.u.toList == a.toList) = false := by rw [beqT]; simpa using hu
          have hn2 := hnx (fun e => hu ((hkH.out x).1 e).1)
          clear rs hx e2 e3 hnx hxm hu hml hn
          go_wp2_with fail
          go_round
          case rel => exact ⟨i + 1, by omega, by go_num, hn2⟩
          case measure => simp [intOf]; omega
    · have fin : Hid ((lk T k).getD 9223372036854775807 = 9223372036854775807) := by
        have e : T.take i = T := List.take_of_length_le (by have := hmH.out; omega)
        have := hn.out
        rw [e] at this
        show _ = _
        rw [lk_none this]; rfl
      go_wp2_with fail
      go_ret
      exact ⟨by rw [fin.out]; rfl, rfl⟩
end Go.Proofs.YtdcidlgmnnaahaaGreat
/- LoopPlays: parts of rows. -/
namespace Go.Proofs.YtdcidlgmnnaahaaGreat.Md
open Go.RowKit Go.Shelf Go.Lib
theorem RS.drop {w : World} {g o c : Nat} {L : List Du} (h : RS w g o c L) {k : Nat} (hk : k ≤ L.length) : RS w g (if c = k then o else o + k * 3) (c - k) (L.drop k) := by
  have hle := h.le
  have ha := (RA.app.1 (by rw [List.take_append_drop]; exact h.ra : RA w g o (L.take k ++ L.drop k))).2
  rw [List.length_take, Nat.min_eq_left hk] at ha
  by_cases hc : c = k
  · rw [if_pos hc]
    have e : L.drop k = [] := List.drop_eq_nil_of_le (by omega)
    rw [e]
    exact ⟨by simp, ⟨h.rm.lt, by have := h.rm.mx; omega, fun j hj => by omega, fun j hj => by omega⟩, RA.nil _ _ _⟩
  · rw [if_neg hc]
    exact ⟨by rw [List.length_drop]; omega, h.rm.sub (by omega), ha⟩
theorem RS.take {w : World} {g o c : Nat} {L : List Du} (h : RS w g o c L) (k : Nat) : RS w g o c (L.take k) :=
  ⟨Nat.le_trans (by rw [List.length_take]; omega) h.le, h.rm, (RA.app.1 (by rw [List.take_append_drop]; exact h.ra : RA w g o (L.take k ++ L.drop k))).1⟩
theorem slice_lo {w : World} {v : Value} {L : List Du} (h : SV w v L) {k : Nat} (hk : k ≤ L.length) :
    ∃ dv, (∀ W, (Instr.slice 28 v (some (.int .i64 k)) none none).run Tryz.prog W = .ok dv W) ∧ SV w dv (L.drop k) ∧ ∀ b, Qd.nbk dv = some b → Qd.nbk v = some b := by
  obtain ⟨i0, hi, hz0, hz1, hz2⟩ := infoT
  rcases h with ⟨rfl, rfl⟩ | ⟨g, o, c, rfl, h⟩
  · have : k = 0 := by simpa using hk
    subst this
    refine ⟨.slice none 0 0, fun W => ?_, .inl ⟨rfl, rfl⟩, fun _ h => h⟩
    simp [Instr.slice, Instr.sliceBounds, Instr.sliceBound, run_underlying Tryz.underlying28, sizeOf, typeInfo, hi, asIntOf]
  · have hle := h.le
    refine ⟨slv g (if c = k then o else o + k * 3) (L.length - k) (c - k), fun W => ?_, .inr ⟨_, _, _, by rw [List.length_drop], h.drop hk⟩, fun _ h => h⟩
    by_cases e : c = k
    · simp [Instr.slice, Instr.sliceBounds, Instr.sliceBound, run_underlying Tryz.underlying28, sizeOf, typeInfo, hi, asIntOf, hz1, e, Addr.add_lit]; intro z; omega
    · simp [Instr.slice, Instr.sliceBounds, Instr.sliceBound, run_underlying Tryz.underlying28, sizeOf, typeInfo, hi, asIntOf, hz1, e, Addr.add_lit]; intro z; omega
theorem slice_hi {w : World} {v : Value} {L : List Du} (h : SV w v L) {k : Nat} (hk : k ≤ L.length) :
    ∃ dv, (∀ W, (Instr.slice 28 v none (some (.int .i64 k)) none).run Tryz.prog W = .ok dv W) ∧ SV w dv (L.take k) := by
  obtain ⟨i0, hi, hz0, hz1, hz2⟩ := infoT
  rcases h with ⟨rfl, rfl⟩ | ⟨g, o, c, rfl, h⟩
  · have : k = 0 := by simpa using hk
    subst this
    refine ⟨.slice none 0 0, fun W => ?_, .inl ⟨rfl, rfl⟩⟩
    simp [Instr.slice, Instr.sliceBounds, Instr.sliceBound, run_underlying Tryz.underlying28, sizeOf, typeInfo, hi, asIntOf]
  · have hle := h.le
    refine ⟨slv g o k c, fun W => ?_, .inr ⟨_, _, _, by rw [List.length_take, Nat.min_eq_left hk], h.take k⟩⟩
    by_cases e : c = 0
    · have : k = 0 := by omega
      subst this
      simp [Instr.slice, Instr.sliceBounds, Instr.sliceBound, run_underlying Tryz.underlying28, sizeOf, typeInfo, hi, asIntOf, e]
    · simp [Instr.slice, Instr.sliceBounds, Instr.sliceBound, run_underlying Tryz.underlying28, sizeOf, typeInfo, hi, asIntOf, e, Addr.add_lit]; intro z; omega
end Go.Proofs.YtdcidlgmnnaahaaGreat.Md
namespace Go.Proofs.YtdcidlgmnnaahaaGreat.Me
open Go.RowKit Go.Shelf Go.Lib
theorem RS.drop {w : World} {g o c : Nat} {L : List Wt} (h : RS w g o c L) {k : Nat} (hk : k ≤ L.length) : RS w g (if c = k then o else o + k * 5) (c - k) (L.drop k) := by
  have hle := h.le
  have ha := (RA.app.1 (by rw [List.take_append_drop]; exact h.ra : RA w g o (L.take k ++ L.drop k))).2
  rw [List.length_take, Nat.min_eq_left hk] at ha
  by_cases hc : c = k
  · rw [if_pos hc]
    have e : L.drop k = [] := List.drop_eq_nil_of_le (by omega)
    rw [e]
    exact ⟨by simp, ⟨h.rm.lt, by have := h.rm.mx; omega, fun j hj => by omega, fun j hj => by omega⟩, RA.nil _ _ _⟩
  · rw [if_neg hc]
    exact ⟨by rw [List.length_drop]; omega, h.rm.sub (by omega), ha⟩
theorem RS.take {w : World} {g o c : Nat} {L : List Wt} (h : RS w g o c L) (k : Nat) : RS w g o c (L.take k) :=
  ⟨Nat.le_trans (by rw [List.length_take]; omega) h.le, h.rm, (RA.app.1 (by rw [List.take_append_drop]; exact h.ra : RA w g o (L.take k ++ L.drop k))).1⟩
theorem slice_lo {w : World} {v : Value} {L : List Wt} (h : SV w v L) {k : Nat} (hk : k ≤ L.length) :
    ∃ dv, (∀ W, (Instr.slice 27 v (some (.int .i64 k)) none none).run Tryz.prog W = .ok dv W) ∧ SV w dv (L.drop k) ∧ ∀ b, Qd.nbk dv = some b → Qd.nbk v = some b := by
  obtain ⟨i0, hi, hz0, hz1, hz2⟩ := infoT
  rcases h with ⟨rfl, rfl⟩ | ⟨g, o, c, rfl, h⟩
  · have : k = 0 := by simpa using hk
    subst this
    refine ⟨.slice none 0 0, fun W => ?_, .inl ⟨rfl, rfl⟩, fun _ h => h⟩
    simp [Instr.slice, Instr.sliceBounds, Instr.sliceBound, run_underlying Tryz.underlying27, sizeOf, typeInfo, hi, asIntOf]
  · have hle := h.le
    refine ⟨slv g (if c = k then o else o + k * 5) (L.length - k) (c - k), fun W => ?_, .inr ⟨_, _, _, by rw [List.length_drop], h.drop hk⟩, fun _ h => h⟩
    by_cases e : c = k
    · simp [Instr.slice, Instr.sliceBounds, Instr.sliceBound, run_underlying Tryz.underlying27, sizeOf, typeInfo, hi, asIntOf, hz1, e, Addr.add_lit]; intro z; omega
    · simp [Instr.slice, Instr.sliceBounds, Instr.sliceBound, run_underlying Tryz.underlying27, sizeOf, typeInfo, hi, asIntOf, hz1, e, Addr.add_lit]; intro z; omega
theorem slice_hi {w : World} {v : Value} {L : List Wt} (h : SV w v L) {k : Nat} (hk : k ≤ L.length) :
    ∃ dv, (∀ W, (Instr.slice 27 v none (some (.int .i64 k)) none).run Tryz.prog W = .ok dv W) ∧ SV w dv (L.take k) := by
  obtain ⟨i0, hi, hz0, hz1, hz2⟩ := infoT
  rcases h with ⟨rfl, rfl⟩ | ⟨g, o, c, rfl, h⟩
  · have : k = 0 := by simpa using hk
    subst this
    refine ⟨.slice none 0 0, fun W => ?_, .inl ⟨rfl, rfl⟩⟩
    simp [Instr.slice, Instr.sliceBounds, Instr.sliceBound, run_underlying Tryz.underlying27, sizeOf, typeInfo, hi, asIntOf]
  · have hle := h.le
    refine ⟨slv g o k c, fun W => ?_, .inr ⟨_, _, _, by rw [List.length_take, Nat.min_eq_left hk], h.take k⟩⟩
    by_cases e : c = 0
    · have : k = 0 := by omega
      subst this
      simp [Instr.slice, Instr.sliceBounds, Instr.sliceBound, run_underlying Tryz.underlying27, sizeOf, typeInfo, hi, asIntOf, e]
    · simp [Instr.slice, Instr.sliceBounds, Instr.sliceBound, run_underlying Tryz.underlying27, sizeOf, typeInfo, hi, asIntOf, e, Addr.add_lit]; intro z; omega
end Go.Proofs.YtdcidlgmnnaahaaGreat.Me
