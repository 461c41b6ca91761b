/- QueuePlays. -/
import Derived.Test.YteimalemecgomaaGreatBe
import Derived.Test.YteimalemecgomaaGreatRWB
import Derived.Deep.LoopGhost
import Derived.OpenShut
import Derived.Deep.QuietTactic
import Derived.BigQuiet
namespace Go.Proofs.YteimalemecgomaaGreat
open Go.RowKit Go.Shelf Go.Lib
attribute [local go_sem] Oper.semAt_some
theorem i64wP (n : Int) (h0 : -9223372036854775808 ≤ n) (h1 : n < 9223372036854775808) : IntKind.i64.wrap n = n := by rw [IntKind.wrap_i64]; omega
set_option maxRecDepth 100000 in
set_option maxHeartbeats 8000000 in
theorem plays_walk (p0 : Option Addr) (c0 : Nat) (l : List Int) (st : Int) (w : World) (hl : RowI .i8 w p0 l) (hb : ∀ z ∈ l, -128 ≤ z ∧ z ≤ 127) (hll : l.length ≤ 140737488355328) :
    Calls Tryz.prog 3 #[.slice p0 l.length c0, .int .i64 st] w fun e V => e = .returned (.bool true) ∧ Below w.heap.size w V := by
  obtain ⟨n, hn⟩ : ∃ n, l.length = n := ⟨_, rfl⟩
  rw [hn] at hll ⊢
  obtain ⟨W0, hW0⟩ : ∃ W0, w.alloc (.cells #[.int .i64 st] 3) = W0 := ⟨_, rfl⟩
  have b0 : Below w.heap.size w W0 := by rw [← hW0]; exact (Below.refl _ _).alloc (Nat.le_refl _) _
  obtain ⟨sb, hsb⟩ : ∃ sb, w.heap.size = sb := ⟨_, rfl⟩
  have k0 : W0.cell? ⟨sb, 0, none⟩ = some (.int .i64 st) := by rw [← hW0]; exact cell_at hsb rfl
  have s0 : W0.heap.size = sb + 1 := by rw [← hW0]; simp [hsb]
  have hK := hidP (known_any W0)
  have hNH := hidP hn
  have hlH := hidP hl
  have hbH := hidP hb
  have b0H := hidP b0
  have s0H := hidP s0
  have hsbH := hidP hsb
  clear hn hl hb b0 s0
  by_cases h150 : n ≤ 150
  · have e1 : ¬ (150 : Int) < (n : Int) := by omega
    have hnI : (n : Int) ≤ 150 := by omega
    go_enter Tryz.func3, Tryz.ntmps3
    go_wp2_with (rw [hW0])
    refine hK.out.mono ?_
    rintro e w1 ⟨rfl, bw1⟩
    have k1 : w1.cell? ⟨sb, 0, none⟩ = some (.int .i64 st) := bcell bw1 (by have := s0H.out; omega) k0
    have bw1H := hidP (b0H.out.trans (bw1.mono b0H.out.size))
    have s1H : Hid (sb + 1 ≤ w1.heap.size) := by show _ ≤ _; have := bw1.size; have := s0H.out; omega
    have hA := hidP (Qt.new_any (nb := LN) (key := fun x => x.1) w1)
    unfold Qt.fnV LN at hA
    clear bw1 hK k0
    go_wp2_with fail
    refine hA.out.mono ?_
    rintro e w2 ⟨rfl, ua, ba⟩
    obtain ⟨q, hq⟩ : ∃ q, w1.heap.size = q := ⟨_, rfl⟩
    obtain ⟨w3, hw3⟩ : ∃ w3, w2.alloc (.cells #[.slice none 0 0] 29) = w3 := ⟨_, rfl⟩
    obtain ⟨mb, hmb⟩ : ∃ mb, w2.heap.size = mb := ⟨_, rfl⟩
    have hP0 : Hid (Pm w sb mb q st 0 w3) := by
      have z1 := s1H.out
      have z2 := hsbH.out
      rw [hq] at ua
      have b3 : Below w2.heap.size w2 w3 := by rw [← hw3]; exact (Below.refl _ _).alloc (Nat.le_refl _) _
      have s3 : w3.heap.size = mb + 1 := by rw [← hw3]; simp [hmb]
      have sq : q < mb := by have := (Qt.Qu.lt ua).1 q rfl; omega
      have bw2 := bw1H.out.trans (ba.mono bw1H.out.size)
      have hq3 := ua.mv (D := fun _ => False) (Mv.below b3) (fun _ _ h => h) (fun _ _ h => h)
      refine ⟨.slice none 0 0, [], 0, Nat.le_refl _, ⟨_, _, hq3, fun k hk => ?_, fun k hk => ?_, bw2.trans (b3.mono bw2.size)⟩, fun _ p => p, ⟨by rw [← hw3]; exact cell_at hmb rfl, by rw [← hw3]; exact froz_new hmb⟩, .inl ⟨rfl, rfl⟩, bcell b3 (by omega) (bcell ba (by omega) k1), by omega, by omega, fun k hk => by cases hk⟩
      · have e : k = q := hk.elim id (fun e => False.elim e)
        refine ⟨by omega, fun p => ?_⟩
        rcases p with p | p | p
        · omega
        · omega
        · cases p
      · rcases hk with p | p | p
        · omega
        · omega
        · cases p
    unfold Qt.qp at *
    rw [hq]
    clear ua ba hA bw1H k1
    go_wp2_with (rw [hw3])
    go_loopw [7] (fun i wr => ∃ (j : Nat), j ≤ n ∧ i = .int .i64 j ∧ Hid (Pm w sb mb q st j wr)) (fun i _ => n - (intOf i).toNat)
    case atStart => exact ⟨0, by omega, rfl, hP0⟩
    case round =>
      obtain ⟨j, hj, rfl, hst⟩ := hrel
      by_cases hlt : j < n
      · obtain ⟨x, hx⟩ : ∃ x, l[j]? = some x := ⟨_, List.getElem?_eq_getElem (by rw [hNH.out]; exact hlt)⟩
        obtain ⟨v, L, nn, hnn, hP⟩ := hst.out
        obtain ⟨_, _, _, _, _, bw⟩ := id hP.q
        obtain ⟨g, o, rfl, cx⟩ := (hlH.out.below bw) j x hx
        have hxb := hbH.out x (List.mem_of_getElem? hx)
        have wx : IntKind.i64.wrap x = x := i64wP x (by omega) (by omega)
        have hjI : (j : Int) < (n : Int) := by omega
        have hPH := hidP hP
        clear hst hx bw hP
        by_cases h60 : -60 ≤ x
        · have h60' : (-60 : Int) ≤ x := h60
          obtain ⟨d, hd⟩ : ∃ d, x.tdiv 10 = d := ⟨_, rfl⟩
          have hdw : IntKind.i64.wrap d = d := by
            have := Int.natAbs_tdiv_le_natAbs x 10
            rw [IntKind.wrap_i64]; omega
          obtain ⟨V2, hV2⟩ : ∃ V2, wr.alloc (.cells #[.int .i64 0, .int .i64 0] 27) = V2 := ⟨_, rfl⟩
          obtain ⟨xb, hxb⟩ : ∃ xb, wr.heap.size = xb := ⟨_, rfl⟩
          have hz : Qt.Bz V2 xb := by rw [← hV2, ← hxb]; exact Qt.Bz.new wr
          obtain ⟨V3, hV3, c3, m3⟩ := hz.put (d, (j : Int))
          obtain ⟨z1, z2, z3⟩ := hz
          have b2 : Below wr.heap.size wr V2 := by rw [← hV2]; exact (Below.refl _ _).alloc (Nat.le_refl _) _
          have b3 : Below wr.heap.size wr V3 := bmv b2 (Nat.le_refl _) m3 (fun k e => by omega)
          have lx3 : xb < V3.heap.size := Nat.lt_of_lt_of_le z3 m3.size
          have hso := hidP hPH.out.q.sorted
          obtain ⟨m, hm⟩ : ∃ m, L.length = m := ⟨_, rfl⟩
          obtain ⟨pv, cv, hv⟩ := hPH.out.sv.shape
          rw [hm] at hv
          subst hv
          have hmj : m ≤ j := by have := hPH.out.len; omega
          have hmI : (m : Int) ≤ 150 := by omega
          have hmH := hidP hm
          have hP3 : Ps w (fun k => Pk sb mb (.slice pv m cv) k ∨ k = xb) sb mb q st (.slice pv m cv) L L nn V3 := hPH.out.next (F := fun _ => False) (Mv.below b3) (fun _ f => f.elim) (fun k hk => hk.imp id (fun e => ⟨by omega, by omega⟩)) (fun k p => .inl p)
          have hPu := hidP (hP3.call (f := 7) (args := #[Qt.qp q, Qt.ev (d, (j : Int))]) (R := fun e => e = .returned (.tuple #[])) (fun E B h => Qt.push_any bf_less h (by omega) (d, (j : Int))))
          unfold Qt.qp Qt.ev at hPu
          have x1 : V3.cell? ⟨xb, 0, none⟩ = some (.int .i64 d) := c3.1
          have x2 : V3.cell? ⟨xb, 1, none⟩ = some (.int .i64 (j : Int)) := c3.2
          clear hPH hP3 b2 b3 m3 c3 hm lx3
          go_wp2_with (first | rw [hV2] | rw [hV3])
          refine hPu.out.mono ?_
          rintro e V4 ⟨rfl, hP4, m4⟩
          have hs4 : Sx mb xb (.slice pv m cv) d (j : Int) V4 := ⟨hP4.cm.c, m4.cell (a := ⟨xb, 0, none⟩) (fun z => z (.inr rfl)) x1, m4.cell (a := ⟨xb, 1, none⟩) (fun z => z (.inr rfl)) x2⟩
          have hA0 : Hid ((∀ y ∈ L.drop m, d < y.1) ∧ Ps w (fun k => Pk sb mb (.slice pv m cv) k ∨ k = xb) sb mb q st (.slice pv m cv) L (insA (fun x : Int × Int => x.1) (d, (j : Int)) L) (nn + 1) V4 ∧ Sx mb xb (.slice pv m cv) d (j : Int) V4) := ⟨fun y hy => (by rw [← hmH.out, List.drop_length] at hy; cases hy), hP4, hs4⟩
          have cm4 := hs4.1
          clear hPu hP4 m4 hs4 x1 x2 z1 z2 z3
          go_wp2_with fail
          go_loopw [9] (fun i wr => ∃ (k : Nat), k ≤ m ∧ i = .int .i64 k ∧ Hid ((∀ y ∈ L.drop k, d < y.1) ∧ Ps w (fun k => Pk sb mb (.slice pv m cv) k ∨ k = xb) sb mb q st (.slice pv m cv) L (insA (fun x : Int × Int => x.1) (d, (j : Int)) L) (nn + 1) wr ∧ Sx mb xb (.slice pv m cv) d (j : Int) wr)) (fun i _ => (intOf i).toNat)
          case atStart => exact ⟨m, Nat.le_refl _, rfl, hA0⟩
          case round =>
            obtain ⟨k, hk, rfl, hAk⟩ := hrel
            clear hA0
            obtain ⟨hgt, hPk, hsk⟩ := hAk.out
            have bN : Hid (∀ nq, Below wr.heap.size wr (wr.drewN nq)) := fun nq => ⟨rfl, rfl, rfl, Nat.le_refl _, fun _ _ => rfl⟩
            have cmN : ∀ nq, (wr.drewN nq).cell? ⟨mb, 0, none⟩ = some (.slice pv m cv) := fun nq => hsk.1
            have x1N : ∀ nq, (wr.drewN nq).cell? ⟨xb, 0, none⟩ = some (.int .i64 d) := fun nq => hsk.2.1
            have hPN : Hid (∀ nq, _ ∧ _) := fun nq => ⟨hPk.below (bN.out nq), hsk.below (bN.out nq)⟩
            rcases k with _ | k
            · have hk0 : ¬ (0 : Int) < 0 := by omega
              have hgtH := hidP hgt
              clear hAk hPk hsk hgt
              go_wp2_with fail
              go_quiet (fail)
              obtain ⟨hPx, hsx⟩ := hPN.out nq
              have hgt := hgtH.out
              have hle : ∀ y ∈ L.take 0, ¬ d < y.1 := fun y hy => by simp at hy
              clear hPN hgtH bN cmN x1N
              have hins : insA (fun x : Int × Int => x.1) (d, (j : Int)) L = L.take 0 ++ (d, (j : Int)) :: L.drop 0 := insA_at _ _ _ _ hgt hle
              obtain ⟨pt, nt, ct, htv, p1, n1, c1, W1, hr1, hs1, A, hA, hsA, p2, n2, c2, W2, hr2, hs2, pd, nd, cd, hdv, p3, n3, c3, W3, hr3, hs3, hf3, hPm⟩ := Ps.lay (j := j + 1) (hPx) (hsx) (by rw [hmH.out]; omega) (by rw [hmH.out]; omega) hins (by omega)
              have htv : ∀ W, (Instr.slice 29 (.slice pv m cv) none (some (.int .i64 0)) none).run Tryz.prog W = .ok (.slice pt nt ct) W := fun W => htv W
              have hdv : ∀ W, (Instr.slice 29 (.slice pv m cv) (some (.int .i64 0)) none none).run Tryz.prog W = .ok (.slice pd nd cd) W := fun W => hdv W
              have hcx := hsx.1
              have hc3 := hs3.1
              obtain ⟨WT, hWT⟩ : ∃ WT, W3.setCell ⟨mb, 0, none⟩ (.slice p3 n3 c3) = WT := ⟨_, rfl⟩
              rw [hWT] at hPm
              have hT := hidP hPm
              clear hins hPm hPx hsx hgt hle
              go_wp2_with (at_builtin; refine wpList_append_run rfl _ _ 29 rfl _ _ _ _ rfl rfl hr1 ?_)
              refine Zs.region (S := fun W => W.cell? ⟨mb, 0, none⟩ = some (.slice pv m cv) ∧ W.cell? ⟨xb, 0, none⟩ = some (.int .i64 d) ∧ W.cell? ⟨xb, 1, none⟩ = some (.int .i64 (j : Int))) 8 (by kernel_rfl) ?_
              refine Zs.pure (i := 0) (oi := ⟨some 111, _, _, _, _, _⟩) (v := .slice p1 n1 c1) rfl (by kernel_rfl) (by kernel_rfl) (by kernel_rfl) (by decide) (fun _ _ _ h => h) (Or.inl ⟨by rfl, ?hy0⟩) hs1 ?_
              case hy0 => (intro w hSw; (try dsimp only at hSw); go_simp; try with_reducible rfl)
              simp only [Act.put, List.setIfInBounds_toArray, List.set_cons_zero, List.set_cons_succ]
              refine Zs.pure (i := 5) (oi := ⟨some 116, _, _, _, _, _⟩) (v := .int .i64 0) rfl (by kernel_rfl) (by kernel_rfl) (by kernel_rfl) (by decide) (fun _ _ _ h => h) (Or.inl ⟨by rfl, ?hy5⟩) hs1 ?_
              case hy5 => (intro w hSw; (try dsimp only at hSw); go_simp; try with_reducible rfl)
              simp only [Act.put, List.setIfInBounds_toArray, List.set_cons_zero, List.set_cons_succ]
              refine Zs.take (i := 1) (oi := ⟨some 112, _, _, _, _, _⟩) (v := .agg #[.int .i64 d, .int .i64 (j : Int)]) rfl (by kernel_rfl) (by kernel_rfl) (by kernel_rfl) (by decide) (by kernel_rfl) (by kernel_rfl) (fun _ _ _ h => h) (Or.inl ⟨by rfl, ?hy1⟩) hs1 ?_
              case hy1 => (intro w hSw; (try dsimp only at hSw); go_simp; try with_reducible rfl)
              simp only [Act.put, List.setIfInBounds_toArray, List.set_cons_zero, List.set_cons_succ]
              refine Zs.take (i := 4) (oi := ⟨some 115, _, _, _, _, _⟩) (v := .slice pv m cv) rfl (by kernel_rfl) (by kernel_rfl) (by kernel_rfl) (by decide) (by kernel_rfl) (by kernel_rfl) (fun _ _ _ h => h) (Or.inl ⟨by rfl, ?hy4⟩) hs1 ?_
              case hy4 => (intro w hSw; (try dsimp only at hSw); go_simp; try with_reducible rfl)
              simp only [Act.put, List.setIfInBounds_toArray, List.set_cons_zero, List.set_cons_succ]
              refine Zs.pure (i := 6) (oi := ⟨some 117, _, _, _, _, _⟩) (v := .slice pd nd cd) rfl (by kernel_rfl) (by kernel_rfl) (by kernel_rfl) (by decide) (fun _ _ _ h => h) (Or.inl ⟨by rfl, ?hy6⟩) hs1 ?_
              case hy6 => (intro w hSw; (try dsimp only at hSw); go_simp; try with_reducible rfl)
              simp only [Act.put, List.setIfInBounds_toArray, List.set_cons_zero, List.set_cons_succ]
              refine Zs.one (i := 2) (oi := ⟨some 113, _, _, _, _, _⟩) (by kernel_rfl) rfl (fun K hK => ?_)
              go_simp
              refine hK.out _ _ (fun _ => hsA) ?_
              clear hK K
              try simp only [Act.put, List.setIfInBounds_toArray, List.set_cons_zero, List.set_cons_succ]
              refine Zs.one (i := 3) (oi := ⟨some 114, _, _, _, _, _⟩) (by kernel_rfl) rfl (fun K hK => ?_)
              refine Qt.step_append_run rfl (.tmp 111) (.tmp 113) 29 rfl _ _ _ _ rfl rfl hr2 ?_
              refine hK.out _ _ (fun _ => hs2) ?_
              clear hK K
              try simp only [Act.put, List.setIfInBounds_toArray, List.set_cons_zero, List.set_cons_succ]
              refine Zs.one (i := 7) (oi := ⟨some 118, _, _, _, _, _⟩) (by kernel_rfl) rfl (fun K hK => ?_)
              refine Qt.step_append_run rfl (.tmp 114) (.tmp 117) 29 rfl _ _ _ _ rfl rfl hr3 ?_
              refine hK.out _ _ (fun _ => hs3) ?_
              clear hK K
              try simp only [Act.put, List.setIfInBounds_toArray, List.set_cons_zero, List.set_cons_succ]
              refine Zs.one (i := 8) (oi := ⟨none, _, _, _, _, _⟩) (by kernel_rfl) rfl (fun K hK => ?_)
              go_simp
              refine hK.out _ _ (fun q => absurd q (by decide)) ?_
              clear hK K
              refine Zs.done (by kernel_rfl) ?_ _
              clear hs1 hsA hs2 hs3 hr1 hr2 hr3 htv hdv hc3 hf3 hcx
              go_wp2_with fail
              obtain ⟨v9, L9, n9, hn9, hP9⟩ := hT.out
              obtain ⟨p9, c9, hv9⟩ := hP9.sv.shape
              obtain ⟨m9, hm9⟩ : ∃ m9, L9.length = m9 := ⟨_, rfl⟩
              have hm9j : m9 ≤ j + 1 := by have := hP9.len; omega
              have hfin : Hid (∀ V, Below WT.heap.size WT V → Pm w sb mb q st (j + 1) V) := fun V b => ⟨v9, L9, n9, hn9, hP9.below b⟩
              have hlen : Hid (∀ V, Below WT.heap.size WT V → Calls Tryz.prog 12 #[.pointer (some ⟨q, 0, none⟩)] V fun e V2 => e = .returned (.int .i64 m9) ∧ V2 = V) := fun V b => by
                have := (hP9.below b).q.len
                rw [hm9] at this
                exact this
              have hcm : Hid (∀ V, Below WT.heap.size WT V → V.cell? ⟨mb, 0, none⟩ = some (.slice p9 m9 c9)) := fun V b => by
                have := (hP9.below b).cm.c
                rw [hv9, hm9] at this
                exact this
              clear hT
              rcases L9 with _ | ⟨y, L9⟩
              · obtain rfl : m9 = 0 := by rw [← hm9]; rfl
                have hPk := hidP (hP9.q.quiet (f := 11) (args := #[Qt.qp q]) (R := fun e => e = .returned (.tuple #[.agg #[.int .i64 0, .int .i64 0], .bool false])) (fun E B h => Qt.peek_none h))
                unfold Qt.qp at hPk
                clear hP9 hv9 hm9
                go_wp2_with fail
                refine hPk.out.mono ?_
                rintro e T1 ⟨rfl, _, b1⟩
                obtain ⟨T2, hT2⟩ : ∃ T2, T1.alloc (.cells #[.int .i64 0, .int .i64 0] 27) = T2 := ⟨_, rfl⟩
                obtain ⟨xb, hxb⟩ : ∃ xb, T1.heap.size = xb := ⟨_, rfl⟩
                have hz : Qt.Bz T2 xb := by rw [← hT2, ← hxb]; exact Qt.Bz.new T1
                obtain ⟨T3, hT3, c3, m3⟩ := hz.put (0, 0)
                obtain ⟨z1, z2, z3⟩ := hz
                have b2 : Below T1.heap.size T1 T2 := by rw [← hT2]; exact (Below.refl _ _).alloc (Nat.le_refl _) _
                have b3 : Below WT.heap.size WT T3 := bmv (b1.trans (b2.mono b1.size)) (Nat.le_refl _) m3 (fun k e => by have := b1.size; omega)
                have bN : Hid (∀ nq, Below WT.heap.size WT (T3.drewN nq)) := fun nq => b3.trans (⟨rfl, rfl, rfl, Nat.le_refl _, fun _ _ => rfl⟩ : Below WT.heap.size T3 (T3.drewN nq))
                have hcmN : ∀ nq, (T3.drewN nq).cell? ⟨mb, 0, none⟩ = some (.slice p9 0 c9) := fun nq => hcm.out _ (bN.out nq)
                clear hPk hcm b1 b2 b3 m3 c3
                go_wp2_with (first | rw [hT2] | rw [hT3])
                go_quiet ((go_at_call 12; exact Calls.quiet_of_same (hlen.out _ (bN.out _))))
                go_wp2_with fail
                exact ⟨⟨j + 1, by omega, by go_num, hfin.out _ (bN.out _)⟩, by simp [intOf]; omega⟩
              · have hPk := hidP (hP9.q.quiet (f := 11) (args := #[Qt.qp q]) (R := fun e => e = .returned (.tuple #[.agg #[.int .i64 y.1, .int .i64 y.2], .bool true])) (fun E B h => Qt.peek_some h))
                unfold Qt.qp at hPk
                obtain ⟨g9, o9, d9, hg9, r9⟩ := hP9.sv.resolve_left (fun z => by cases z.2)
                have hrow : Hid (∀ V, Below WT.heap.size WT V → V.cell? ⟨g9, o9, none⟩ = some (.int .i64 y.1) ∧ V.cell? ⟨g9, o9 + 1, none⟩ = some (.int .i64 y.2)) := fun V b => by
                  have h2 := r9.ra.at (j := 0) (x := y) rfl
                  simp only [Nat.zero_mul, Nat.add_zero] at h2
                  exact ⟨bcell b (cell_lt h2.1) h2.1, bcell b (cell_lt h2.2) h2.2⟩
                rw [hv9] at hg9
                injection hg9 with e1 e2 e3
                subst e1
                subst e3
                have hm0 : (0 : Int) < (m9 : Int) := by rw [← hm9, List.length_cons]; omega
                have hm0d : decide ((0 : Int) < (m9 : Int)) = true := decide_eq_true hm0
                have hm0n : 0 < m9 := by omega
                have hm0e : decide (0 < m9) = true := decide_eq_true hm0n
                have hm0z : ¬ m9 = 0 := by omega
                clear hP9 hv9 hm9 e2 r9
                go_wp2_with fail
                refine hPk.out.mono ?_
                rintro e T1 ⟨rfl, _, b1⟩
                obtain ⟨T2, hT2⟩ : ∃ T2, T1.alloc (.cells #[.int .i64 0, .int .i64 0] 27) = T2 := ⟨_, rfl⟩
                obtain ⟨xb, hxb⟩ : ∃ xb, T1.heap.size = xb := ⟨_, rfl⟩
                have hz : Qt.Bz T2 xb := by rw [← hT2, ← hxb]; exact Qt.Bz.new T1
                obtain ⟨T3, hT3, c3, m3⟩ := hz.put y
                obtain ⟨z1, z2, z3⟩ := hz
                have b2 : Below T1.heap.size T1 T2 := by rw [← hT2]; exact (Below.refl _ _).alloc (Nat.le_refl _) _
                have b3 : Below WT.heap.size WT T3 := bmv (b1.trans (b2.mono b1.size)) (Nat.le_refl _) m3 (fun k e => by have := b1.size; omega)
                have bN : Hid (∀ nq, Below WT.heap.size WT (T3.drewN nq)) := fun nq => b3.trans (⟨rfl, rfl, rfl, Nat.le_refl _, fun _ _ => rfl⟩ : Below WT.heap.size T3 (T3.drewN nq))
                have hcmN : ∀ nq, (T3.drewN nq).cell? ⟨mb, 0, none⟩ = some (.slice (some ⟨g9, o9, none⟩) m9 c9) := fun nq => hcm.out _ (bN.out nq)
                have hr1 : ∀ nq, (T3.drewN nq).cell? ⟨g9, o9, none⟩ = some (.int .i64 y.1) := fun nq => (hrow.out _ (bN.out nq)).1
                have hr2 : ∀ nq, (T3.drewN nq).cell? ⟨g9, o9 + 1, none⟩ = some (.int .i64 y.2) := fun nq => (hrow.out _ (bN.out nq)).2
                have hb1 : ∀ nq, (T3.drewN nq).cell? ⟨xb, 0, none⟩ = some (.int .i64 y.1) := fun nq => c3.1
                have hb2 : ∀ nq, (T3.drewN nq).cell? ⟨xb, 1, none⟩ = some (.int .i64 y.2) := fun nq => c3.2
                clear hPk hcm hrow b1 b2 b3 m3 c3
                go_wp2_with (first | rw [hT2] | rw [hT3])
                go_quiet ((go_at_call 12; exact Calls.quiet_of_same (hlen.out _ (bN.out _))))
                go_wp2_with fail
                exact ⟨⟨j + 1, by omega, by go_num, hfin.out _ (bN.out _)⟩, by simp [intOf]; omega⟩
            · obtain ⟨y, hy⟩ : ∃ y, L[k]? = some y := ⟨_, List.getElem?_eq_getElem (by rw [hmH.out]; omega)⟩
              obtain ⟨g, o, c, hgv, rs⟩ := hPk.sv.resolve_left (fun z => by rw [z.2] at hy; cases hy)
              have h2 := rs.ra.at hy
              injection hgv with e1 e2 e3
              subst e1
              subst e3
              clear e2
              have r1N : ∀ nq, (wr.drewN nq).cell? ⟨g, o + k * 2, none⟩ = some (.int .i64 y.1) := fun nq => h2.1
              have hkI : (k : Int) + 1 ≤ (m : Int) := by omega
              have hkI2 : (k : Int) < (m : Int) := by omega
              have hk0 : (0 : Int) < (k : Int) + 1 := by omega
              have hgtH := hidP hgt
              have hyH := hidP hy
              by_cases hyd : d < y.1
              · clear hAk hPk hsk hgt rs h2 hy
                go_wp2_with fail
                go_quiet (fail)
                have nxt := hPN.out nq
                have nx2 : Hid (_ ∧ _ ∧ _) := ⟨(fun z hz => by
                  rw [List.drop_eq_getElem_cons (by rw [hmH.out]; omega)] at hz
                  rcases List.mem_cons.1 hz with e | e
                  · have := hyH.out
                    rw [List.getElem?_eq_getElem (by rw [hmH.out]; omega)] at this
                    injection this with this
                    rw [e, this]; exact hyd
                  · exact hgtH.out z e : ∀ z ∈ L.drop k, d < z.1), nxt⟩
                clear hPN nxt bN cmN x1N r1N hgtH hyH
                go_wp2_with fail
                exact ⟨⟨k, by omega, by go_num, nx2⟩, by simp [intOf]⟩
              · clear hAk hPk hsk hgt rs h2 hy
                go_wp2_with fail
                go_quiet (fail)
                obtain ⟨hPx, hsx⟩ := hPN.out nq
                have hgt := hgtH.out
                have hle : ∀ y ∈ L.take (k + 1), ¬ d < y.1 := take_le (fun x : Int × Int => x.1) (d, (j : Int)) hso.out hyH.out (by show ¬ d < y.1; omega)
                clear hPN hgtH hyH bN cmN x1N r1N
                have hins : insA (fun x : Int × Int => x.1) (d, (j : Int)) L = L.take (k + 1) ++ (d, (j : Int)) :: L.drop (k + 1) := insA_at _ _ _ _ hgt hle
                obtain ⟨pt, nt, ct, htv, p1, n1, c1, W1, hr1, hs1, A, hA, hsA, p2, n2, c2, W2, hr2, hs2, pd, nd, cd, hdv, p3, n3, c3, W3, hr3, hs3, hf3, hPm⟩ := Ps.lay (j := j + 1) (hPx) (hsx) (by rw [hmH.out]; omega) (by rw [hmH.out]; omega) hins (by omega)
                have htv : ∀ W, (Instr.slice 29 (.slice (some ⟨g, o, none⟩) m cv) none (some (.int .i64 ((k : Int) + 1))) none).run Tryz.prog W = .ok (.slice pt nt ct) W := fun W => htv W
                have hdv : ∀ W, (Instr.slice 29 (.slice (some ⟨g, o, none⟩) m cv) (some (.int .i64 ((k : Int) + 1))) none none).run Tryz.prog W = .ok (.slice pd nd cd) W := fun W => hdv W
                have hcx := hsx.1
                have hc3 := hs3.1
                obtain ⟨WT, hWT⟩ : ∃ WT, W3.setCell ⟨mb, 0, none⟩ (.slice p3 n3 c3) = WT := ⟨_, rfl⟩
                rw [hWT] at hPm
                have hT := hidP hPm
                clear hins hPm hPx hsx hgt hle
                go_wp2_with (at_builtin; refine wpList_append_run rfl _ _ 29 rfl _ _ _ _ rfl rfl hr1 ?_)
                refine Zs.region (S := fun W => W.cell? ⟨mb, 0, none⟩ = some (.slice (some ⟨g, o, none⟩) m cv) ∧ W.cell? ⟨xb, 0, none⟩ = some (.int .i64 d) ∧ W.cell? ⟨xb, 1, none⟩ = some (.int .i64 (j : Int))) 8 (by kernel_rfl) ?_
                refine Zs.pure (i := 0) (oi := ⟨some 111, _, _, _, _, _⟩) (v := .slice p1 n1 c1) rfl (by kernel_rfl) (by kernel_rfl) (by kernel_rfl) (by decide) (fun _ _ _ h => h) (Or.inl ⟨by rfl, ?hy0⟩) hs1 ?_
                case hy0 => (intro w hSw; (try dsimp only at hSw); go_simp; try with_reducible rfl)
                simp only [Act.put, List.setIfInBounds_toArray, List.set_cons_zero, List.set_cons_succ]
                refine Zs.pure (i := 5) (oi := ⟨some 116, _, _, _, _, _⟩) (v := .int .i64 ((k : Int) + 1)) rfl (by kernel_rfl) (by kernel_rfl) (by kernel_rfl) (by decide) (fun _ _ _ h => h) (Or.inl ⟨by rfl, ?hy5⟩) hs1 ?_
                case hy5 => (intro w hSw; (try dsimp only at hSw); go_simp; try with_reducible rfl)
                simp only [Act.put, List.setIfInBounds_toArray, List.set_cons_zero, List.set_cons_succ]
                refine Zs.take (i := 1) (oi := ⟨some 112, _, _, _, _, _⟩) (v := .agg #[.int .i64 d, .int .i64 (j : Int)]) rfl (by kernel_rfl) (by kernel_rfl) (by kernel_rfl) (by decide) (by kernel_rfl) (by kernel_rfl) (fun _ _ _ h => h) (Or.inl ⟨by rfl, ?hy1⟩) hs1 ?_
                case hy1 => (intro w hSw; (try dsimp only at hSw); go_simp; try with_reducible rfl)
                simp only [Act.put, List.setIfInBounds_toArray, List.set_cons_zero, List.set_cons_succ]
                refine Zs.take (i := 4) (oi := ⟨some 115, _, _, _, _, _⟩) (v := .slice (some ⟨g, o, none⟩) m cv) rfl (by kernel_rfl) (by kernel_rfl) (by kernel_rfl) (by decide) (by kernel_rfl) (by kernel_rfl) (fun _ _ _ h => h) (Or.inl ⟨by rfl, ?hy4⟩) hs1 ?_
                case hy4 => (intro w hSw; (try dsimp only at hSw); go_simp; try with_reducible rfl)
                simp only [Act.put, List.setIfInBounds_toArray, List.set_cons_zero, List.set_cons_succ]
                refine Zs.pure (i := 6) (oi := ⟨some 117, _, _, _, _, _⟩) (v := .slice pd nd cd) rfl (by kernel_rfl) (by kernel_rfl) (by kernel_rfl) (by decide) (fun _ _ _ h => h) (Or.inl ⟨by rfl, ?hy6⟩) hs1 ?_
                case hy6 => (intro w hSw; (try dsimp only at hSw); go_simp; try with_reducible rfl)
                simp only [Act.put, List.setIfInBounds_toArray, List.set_cons_zero, List.set_cons_succ]
                refine Zs.one (i := 2) (oi := ⟨some 113, _, _, _, _, _⟩) (by kernel_rfl) rfl (fun K hK => ?_)
                go_simp
                refine hK.out _ _ (fun _ => hsA) ?_
                clear hK K
                try simp only [Act.put, List.setIfInBounds_toArray, List.set_cons_zero, List.set_cons_succ]
                refine Zs.one (i := 3) (oi := ⟨some 114, _, _, _, _, _⟩) (by kernel_rfl) rfl (fun K hK => ?_)
                refine Qt.step_append_run rfl (.tmp 111) (.tmp 113) 29 rfl _ _ _ _ rfl rfl hr2 ?_
                refine hK.out _ _ (fun _ => hs2) ?_
                clear hK K
                try simp only [Act.put, List.setIfInBounds_toArray, List.set_cons_zero, List.set_cons_succ]
                refine Zs.one (i := 7) (oi := ⟨some 118, _, _, _, _, _⟩) (by kernel_rfl) rfl (fun K hK => ?_)
                refine Qt.step_append_run rfl (.tmp 114) (.tmp 117) 29 rfl _ _ _ _ rfl rfl hr3 ?_
                refine hK.out _ _ (fun _ => hs3) ?_
                clear hK K
                try simp only [Act.put, List.setIfInBounds_toArray, List.set_cons_zero, List.set_cons_succ]
                refine Zs.one (i := 8) (oi := ⟨none, _, _, _, _, _⟩) (by kernel_rfl) rfl (fun K hK => ?_)
                go_simp
                refine hK.out _ _ (fun q => absurd q (by decide)) ?_
                clear hK K
                refine Zs.done (by kernel_rfl) ?_ _
                clear hs1 hsA hs2 hs3 hr1 hr2 hr3 htv hdv hc3 hf3 hcx
                go_wp2_with fail
                obtain ⟨v9, L9, n9, hn9, hP9⟩ := hT.out
                obtain ⟨p9, c9, hv9⟩ := hP9.sv.shape
                obtain ⟨m9, hm9⟩ : ∃ m9, L9.length = m9 := ⟨_, rfl⟩
                have hm9j : m9 ≤ j + 1 := by have := hP9.len; omega
                have hfin : Hid (∀ V, Below WT.heap.size WT V → Pm w sb mb q st (j + 1) V) := fun V b => ⟨v9, L9, n9, hn9, hP9.below b⟩
                have hlen : Hid (∀ V, Below WT.heap.size WT V → Calls Tryz.prog 12 #[.pointer (some ⟨q, 0, none⟩)] V fun e V2 => e = .returned (.int .i64 m9) ∧ V2 = V) := fun V b => by
                  have := (hP9.below b).q.len
                  rw [hm9] at this
                  exact this
                have hcm : Hid (∀ V, Below WT.heap.size WT V → V.cell? ⟨mb, 0, none⟩ = some (.slice p9 m9 c9)) := fun V b => by
                  have := (hP9.below b).cm.c
                  rw [hv9, hm9] at this
                  exact this
                clear hT
                rcases L9 with _ | ⟨y, L9⟩
                · obtain rfl : m9 = 0 := by rw [← hm9]; rfl
                  have hPk := hidP (hP9.q.quiet (f := 11) (args := #[Qt.qp q]) (R := fun e => e = .returned (.tuple #[.agg #[.int .i64 0, .int .i64 0], .bool false])) (fun E B h => Qt.peek_none h))
                  unfold Qt.qp at hPk
                  clear hP9 hv9 hm9
                  go_wp2_with fail
                  refine hPk.out.mono ?_
                  rintro e T1 ⟨rfl, _, b1⟩
                  obtain ⟨T2, hT2⟩ : ∃ T2, T1.alloc (.cells #[.int .i64 0, .int .i64 0] 27) = T2 := ⟨_, rfl⟩
                  obtain ⟨xb, hxb⟩ : ∃ xb, T1.heap.size = xb := ⟨_, rfl⟩
                  have hz : Qt.Bz T2 xb := by rw [← hT2, ← hxb]; exact Qt.Bz.new T1
                  obtain ⟨T3, hT3, c3, m3⟩ := hz.put (0, 0)
                  obtain ⟨z1, z2, z3⟩ := hz
                  have b2 : Below T1.heap.size T1 T2 := by rw [← hT2]; exact (Below.refl _ _).alloc (Nat.le_refl _) _
                  have b3 : Below WT.heap.size WT T3 := bmv (b1.trans (b2.mono b1.size)) (Nat.le_refl _) m3 (fun k e => by have := b1.size; omega)
                  have bN : Hid (∀ nq, Below WT.heap.size WT (T3.drewN nq)) := fun nq => b3.trans (⟨rfl, rfl, rfl, Nat.le_refl _, fun _ _ => rfl⟩ : Below WT.heap.size T3 (T3.drewN nq))
                  have hcmN : ∀ nq, (T3.drewN nq).cell? ⟨mb, 0, none⟩ = some (.slice p9 0 c9) := fun nq => hcm.out _ (bN.out nq)
                  clear hPk hcm b1 b2 b3 m3 c3
                  go_wp2_with (first | rw [hT2] | rw [hT3])
                  go_quiet ((go_at_call 12; exact Calls.quiet_of_same (hlen.out _ (bN.out _))))
                  go_wp2_with fail
                  exact ⟨⟨j + 1, by omega, by go_num, hfin.out _ (bN.out _)⟩, by simp [intOf]; omega⟩
                · have hPk := hidP (hP9.q.quiet (f := 11) (args := #[Qt.qp q]) (R := fun e => e = .returned (.tuple #[.agg #[.int .i64 y.1, .int .i64 y.2], .bool true])) (fun E B h => Qt.peek_some h))
                  unfold Qt.qp at hPk
                  obtain ⟨g9, o9, d9, hg9, r9⟩ := hP9.sv.resolve_left (fun z => by cases z.2)
                  have hrow : Hid (∀ V, Below WT.heap.size WT V → V.cell? ⟨g9, o9, none⟩ = some (.int .i64 y.1) ∧ V.cell? ⟨g9, o9 + 1, none⟩ = some (.int .i64 y.2)) := fun V b => by
                    have h2 := r9.ra.at (j := 0) (x := y) rfl
                    simp only [Nat.zero_mul, Nat.add_zero] at h2
                    exact ⟨bcell b (cell_lt h2.1) h2.1, bcell b (cell_lt h2.2) h2.2⟩
                  rw [hv9] at hg9
                  injection hg9 with e1 e2 e3
                  subst e1
                  subst e3
                  have hm0 : (0 : Int) < (m9 : Int) := by rw [← hm9, List.length_cons]; omega
                  have hm0d : decide ((0 : Int) < (m9 : Int)) = true := decide_eq_true hm0
                  have hm0n : 0 < m9 := by omega
                  have hm0e : decide (0 < m9) = true := decide_eq_true hm0n
                  have hm0z : ¬ m9 = 0 := by omega
                  clear hP9 hv9 hm9 e2 r9
                  go_wp2_with fail
                  refine hPk.out.mono ?_
                  rintro e T1 ⟨rfl, _, b1⟩
                  obtain ⟨T2, hT2⟩ : ∃ T2, T1.alloc (.cells #[.int .i64 0, .int .i64 0] 27) = T2 := ⟨_, rfl⟩
                  obtain ⟨xb, hxb⟩ : ∃ xb, T1.heap.size = xb := ⟨_, rfl⟩
                  have hz : Qt.Bz T2 xb := by rw [← hT2, ← hxb]; exact Qt.Bz.new T1
                  obtain ⟨T3, hT3, c3, m3⟩ := hz.put y
                  obtain ⟨z1, z2, z3⟩ := hz
                  have b2 : Below T1.heap.size T1 T2 := by rw [← hT2]; exact (Below.refl _ _).alloc (Nat.le_refl _) _
                  have b3 : Below WT.heap.size WT T3 := bmv (b1.trans (b2.mono b1.size)) (Nat.le_refl _) m3 (fun k e => by have := b1.size; omega)
                  have bN : Hid (∀ nq, Below WT.heap.size WT (T3.drewN nq)) := fun nq => b3.trans (⟨rfl, rfl, rfl, Nat.le_refl _, fun _ _ => rfl⟩ : Below WT.heap.size T3 (T3.drewN nq))
                  have hcmN : ∀ nq, (T3.drewN nq).cell? ⟨mb, 0, none⟩ = some (.slice (some ⟨g9, o9, none⟩) m9 c9) := fun nq => hcm.out _ (bN.out nq)
                  have hr1 : ∀ nq, (T3.drewN nq).cell? ⟨g9, o9, none⟩ = some (.int .i64 y.1) := fun nq => (hrow.out _ (bN.out nq)).1
                  have hr2 : ∀ nq, (T3.drewN nq).cell? ⟨g9, o9 + 1, none⟩ = some (.int .i64 y.2) := fun nq => (hrow.out _ (bN.out nq)).2
                  have hb1 : ∀ nq, (T3.drewN nq).cell? ⟨xb, 0, none⟩ = some (.int .i64 y.1) := fun nq => c3.1
                  have hb2 : ∀ nq, (T3.drewN nq).cell? ⟨xb, 1, none⟩ = some (.int .i64 y.2) := fun nq => c3.2
                  clear hPk hcm hrow b1 b2 b3 m3 c3
                  go_wp2_with (first | rw [hT2] | rw [hT3])
                  go_quiet ((go_at_call 12; exact Calls.quiet_of_same (hlen.out _ (bN.out _))))
                  go_wp2_with fail
                  exact ⟨⟨j + 1, by omega, by go_num, hfin.out _ (bN.out _)⟩, by simp [intOf]; omega⟩
        · have h60' : ¬ (-60 : Int) ≤ x := h60
          by_cases h110 : -110 ≤ x
          · have h110' : (-110 : Int) ≤ x := h110
            rcases L with _ | ⟨y, L⟩
            · have hPop := hidP (hPH.out.q.quiet (f := 8) (args := #[Qt.qp q]) (R := fun e => e = .returned (.tuple #[.agg #[.int .i64 0, .int .i64 0], .int .i64 130])) (fun E B h => Qt.pop_none h))
              obtain ⟨pv, cv, hv⟩ := hPH.out.sv.shape
              have hcm : Hid (∀ V, Below wr.heap.size wr V → V.cell? ⟨mb, 0, none⟩ = some (.slice pv 0 cv)) := fun V b => by
                have := (hPH.out.below b).cm.c
                rw [hv] at this
                exact this
              have hfin : Hid (∀ V, Below wr.heap.size wr V → Pm w sb mb q st (j + 1) V) := fun V b => ⟨v, [], nn, by omega, hPH.out.below b⟩
              unfold Qt.qp at hPop
              clear hPH hv
              go_wp2_with fail
              refine hPop.out.mono ?_
              rintro e V1 ⟨rfl, _, b1⟩
              obtain ⟨V2, hV2⟩ : ∃ V2, V1.alloc (.cells #[.int .i64 0, .int .i64 0] 27) = V2 := ⟨_, rfl⟩
              obtain ⟨xb, hxb⟩ : ∃ xb, V1.heap.size = xb := ⟨_, rfl⟩
              have hz : Qt.Bz V2 xb := by rw [← hV2, ← hxb]; exact Qt.Bz.new V1
              obtain ⟨V3, hV3, c3, m3⟩ := hz.put (0, 0)
              obtain ⟨z1, z2, z3⟩ := hz
              have b2 : Below V1.heap.size V1 V2 := by rw [← hV2]; exact (Below.refl _ _).alloc (Nat.le_refl _) _
              have b3 : Below wr.heap.size wr V3 := bmv (b1.trans (b2.mono b1.size)) (Nat.le_refl _) m3 (fun k e => by have := b1.size; omega)
              have hc3 := hcm.out _ b3
              have hf3 := hidP (hfin.out _ b3)
              clear hPop hcm hfin b1 b2 b3 m3
              go_wp2_with (first | rw [hV2] | rw [hV3])
              exact ⟨⟨j + 1, by omega, by go_num, hf3⟩, by simp [intOf]; omega⟩
            · have hPop := hidP (hPH.out.call (f := 8) (args := #[Qt.qp q]) (R := fun e => e = .returned (.tuple #[Qt.ev y, .int .i64 0])) (fun E B h => Qt.pop_some bf_less h))
              unfold Qt.qp Qt.ev at hPop
              clear hPH
              go_wp2_with fail
              refine hPop.out.mono ?_
              rintro e V1 ⟨rfl, hP1, _⟩
              obtain ⟨V2, hV2⟩ : ∃ V2, V1.alloc (.cells #[.int .i64 0, .int .i64 0] 27) = V2 := ⟨_, rfl⟩
              obtain ⟨xb, hxb⟩ : ∃ xb, V1.heap.size = xb := ⟨_, rfl⟩
              have hz : Qt.Bz V2 xb := by rw [← hV2, ← hxb]; exact Qt.Bz.new V1
              obtain ⟨V3, hV3, c3, m3⟩ := hz.put y
              obtain ⟨z1, z2, z3⟩ := hz
              have b2 : Below V1.heap.size V1 V2 := by rw [← hV2]; exact (Below.refl _ _).alloc (Nat.le_refl _) _
              have b3 : Below V1.heap.size V1 V3 := bmv b2 (Nat.le_refl _) m3 (fun k e => by omega)
              have hP3 := hP1.below b3
              obtain ⟨g, o, c, hgv, rs⟩ := hP3.sv.resolve_left (fun z => by cases z.2)
              obtain ⟨m, hm⟩ : ∃ m, (y :: L).length = m := ⟨_, rfl⟩
              rw [hm] at hgv
              have h2 := rs.ra.at (j := 0) (x := y) rfl
              simp only [Nat.zero_mul, Nat.add_zero] at h2
              have cmb : V3.cell? ⟨mb, 0, none⟩ = some (.slice (some ⟨g, o, none⟩) m c) := by have := hP3.cm.c; rw [hgv] at this; exact this
              have fmb := hP3.cm.f
              have r1 : V3.drew.cell? ⟨g, o, none⟩ = some (.int .i64 y.1) := h2.1
              have r2 : V3.drew.cell? ⟨g, o + 1, none⟩ = some (.int .i64 y.2) := h2.2
              have x1 : V3.drew.cell? ⟨xb, 0, none⟩ = some (.int .i64 y.1) := c3.1
              have x2 : V3.drew.cell? ⟨xb, 1, none⟩ = some (.int .i64 y.2) := c3.2
              have cmd : V3.drew.cell? ⟨mb, 0, none⟩ = some (.slice (some ⟨g, o, none⟩) m c) := cmb
              have cmN : ∀ nq, (V3.drewN nq).cell? ⟨mb, 0, none⟩ = some (.slice (some ⟨g, o, none⟩) m c) := fun nq => cmb
              have fmN : ∀ nq, (V3.drewN nq).frozen? ⟨mb, 0, none⟩ = false := fun nq => fmb
              have r1N : ∀ nq, (V3.drewN nq).cell? ⟨g, o, none⟩ = some (.int .i64 y.1) := fun nq => h2.1
              have r2N : ∀ nq, (V3.drewN nq).cell? ⟨g, o + 1, none⟩ = some (.int .i64 y.2) := fun nq => h2.2
              have x1N : ∀ nq, (V3.drewN nq).cell? ⟨xb, 0, none⟩ = some (.int .i64 y.1) := fun nq => c3.1
              have x2N : ∀ nq, (V3.drewN nq).cell? ⟨xb, 1, none⟩ = some (.int .i64 y.2) := fun nq => c3.2
              have hm0 : (0 : Int) < (m : Int) := by rw [← hm, List.length_cons]; omega
              have hm1 : ¬ (m : Int) = 0 := by omega
              have hm2 : ((m : Int) == 0) = false := by simp; omega
              obtain ⟨dv, hdv, svd, nbd⟩ := Mi.slice_lo hP3.sv (k := 1) (by simp)
              rw [hgv] at hdv
              obtain ⟨pd, cd, hd⟩ := svd.shape
              subst hd
              have hdv1 : ∀ W, (Instr.slice 29 (.slice (some ⟨g, o, none⟩) m c) (some (.int .i64 1)) none none).run Tryz.prog W = .ok (.slice pd L.length cd) W := fun W => hdv W
              have hset : Hid (∀ nq, ∃ WT, (V3.drewN nq).setCell ⟨mb, 0, none⟩ (.slice pd L.length cd) = WT ∧ Pm w sb mb q st (j + 1) WT) := fun nq => by
                have bq : Below V3.heap.size V3 (V3.drewN nq) := ⟨rfl, rfl, rfl, Nat.le_refl _, fun _ _ => rfl⟩
                refine ⟨_, rfl, _, L, nn, by omega, (hP3.below bq).setm (M' := L) (svd.mv (F := fun _ => False) (Mv.below bq) (fun _ _ h => h)) (fun k hk => ⟨hP3.pk k (.inr (.inr (nbd k hk))), hP3.nv k (nbd k hk)⟩) rfl⟩
              clear hPop b2 b3 m3 hP1 hP3 rs h2 c3 hgv svd nbd hm
              go_wp2_with (first | rw [hV2] | rw [hV3])
              go_quiet (fail)
              obtain ⟨WT, hWT, hT'⟩ := hset.out nq
              have hT := hidP hT'
              have hc9 := cmN nq
              have hf9 := fmN nq
              clear hset hT' hdv cmN fmN r1N r2N x1N x2N r1 r2 x1 x2 cmd cmb fmb z1 z2 z3
              go_wp2_with (rw [hWT])
              obtain ⟨v9, L9, n9, hn9, hP9⟩ := hT.out
              obtain ⟨p9, c9, hv9⟩ := hP9.sv.shape
              obtain ⟨m9, hm9⟩ : ∃ m9, L9.length = m9 := ⟨_, rfl⟩
              have hm9j : m9 ≤ j + 1 := by have := hP9.len; omega
              have hfin : Hid (∀ V, Below WT.heap.size WT V → Pm w sb mb q st (j + 1) V) := fun V b => ⟨v9, L9, n9, hn9, hP9.below b⟩
              have hlen : Hid (∀ V, Below WT.heap.size WT V → Calls Tryz.prog 12 #[.pointer (some ⟨q, 0, none⟩)] V fun e V2 => e = .returned (.int .i64 m9) ∧ V2 = V) := fun V b => by
                have := (hP9.below b).q.len
                rw [hm9] at this
                exact this
              have hcm : Hid (∀ V, Below WT.heap.size WT V → V.cell? ⟨mb, 0, none⟩ = some (.slice p9 m9 c9)) := fun V b => by
                have := (hP9.below b).cm.c
                rw [hv9, hm9] at this
                exact this
              clear hT
              rcases L9 with _ | ⟨y, L9⟩
              · obtain rfl : m9 = 0 := by rw [← hm9]; rfl
                have hPk := hidP (hP9.q.quiet (f := 11) (args := #[Qt.qp q]) (R := fun e => e = .returned (.tuple #[.agg #[.int .i64 0, .int .i64 0], .bool false])) (fun E B h => Qt.peek_none h))
                unfold Qt.qp at hPk
                clear hP9 hv9 hm9
                go_wp2_with fail
                refine hPk.out.mono ?_
                rintro e T1 ⟨rfl, _, b1⟩
                obtain ⟨T2, hT2⟩ : ∃ T2, T1.alloc (.cells #[.int .i64 0, .int .i64 0] 27) = T2 := ⟨_, rfl⟩
                obtain ⟨xb, hxb⟩ : ∃ xb, T1.heap.size = xb := ⟨_, rfl⟩
                have hz : Qt.Bz T2 xb := by rw [← hT2, ← hxb]; exact Qt.Bz.new T1
                obtain ⟨T3, hT3, c3, m3⟩ := hz.put (0, 0)
                obtain ⟨z1, z2, z3⟩ := hz
                have b2 : Below T1.heap.size T1 T2 := by rw [← hT2]; exact (Below.refl _ _).alloc (Nat.le_refl _) _
                have b3 : Below WT.heap.size WT T3 := bmv (b1.trans (b2.mono b1.size)) (Nat.le_refl _) m3 (fun k e => by have := b1.size; omega)
                have bN : Hid (∀ nq, Below WT.heap.size WT (T3.drewN nq)) := fun nq => b3.trans (⟨rfl, rfl, rfl, Nat.le_refl _, fun _ _ => rfl⟩ : Below WT.heap.size T3 (T3.drewN nq))
                have hcmN : ∀ nq, (T3.drewN nq).cell? ⟨mb, 0, none⟩ = some (.slice p9 0 c9) := fun nq => hcm.out _ (bN.out nq)
                clear hPk hcm b1 b2 b3 m3 c3
                go_wp2_with (first | rw [hT2] | rw [hT3])
                go_quiet ((go_at_call 12; exact Calls.quiet_of_same (hlen.out _ (bN.out _))))
                go_wp2_with fail
                exact ⟨⟨j + 1, by omega, by go_num, hfin.out _ (bN.out _)⟩, by simp [intOf]; omega⟩
              · have hPk := hidP (hP9.q.quiet (f := 11) (args := #[Qt.qp q]) (R := fun e => e = .returned (.tuple #[.agg #[.int .i64 y.1, .int .i64 y.2], .bool true])) (fun E B h => Qt.peek_some h))
                unfold Qt.qp at hPk
                obtain ⟨g9, o9, d9, hg9, r9⟩ := hP9.sv.resolve_left (fun z => by cases z.2)
                have hrow : Hid (∀ V, Below WT.heap.size WT V → V.cell? ⟨g9, o9, none⟩ = some (.int .i64 y.1) ∧ V.cell? ⟨g9, o9 + 1, none⟩ = some (.int .i64 y.2)) := fun V b => by
                  have h2 := r9.ra.at (j := 0) (x := y) rfl
                  simp only [Nat.zero_mul, Nat.add_zero] at h2
                  exact ⟨bcell b (cell_lt h2.1) h2.1, bcell b (cell_lt h2.2) h2.2⟩
                rw [hv9] at hg9
                injection hg9 with e1 e2 e3
                subst e1
                subst e3
                have hm0 : (0 : Int) < (m9 : Int) := by rw [← hm9, List.length_cons]; omega
                have hm0d : decide ((0 : Int) < (m9 : Int)) = true := decide_eq_true hm0
                have hm0n : 0 < m9 := by omega
                have hm0e : decide (0 < m9) = true := decide_eq_true hm0n
                have hm0z : ¬ m9 = 0 := by omega
                clear hP9 hv9 hm9 e2 r9
                go_wp2_with fail
                refine hPk.out.mono ?_
                rintro e T1 ⟨rfl, _, b1⟩
                obtain ⟨T2, hT2⟩ : ∃ T2, T1.alloc (.cells #[.int .i64 0, .int .i64 0] 27) = T2 := ⟨_, rfl⟩
                obtain ⟨xb, hxb⟩ : ∃ xb, T1.heap.size = xb := ⟨_, rfl⟩
                have hz : Qt.Bz T2 xb := by rw [← hT2, ← hxb]; exact Qt.Bz.new T1
                obtain ⟨T3, hT3, c3, m3⟩ := hz.put y
                obtain ⟨z1, z2, z3⟩ := hz
                have b2 : Below T1.heap.size T1 T2 := by rw [← hT2]; exact (Below.refl _ _).alloc (Nat.le_refl _) _
                have b3 : Below WT.heap.size WT T3 := bmv (b1.trans (b2.mono b1.size)) (Nat.le_refl _) m3 (fun k e => by have := b1.size; omega)
                have bN : Hid (∀ nq, Below WT.heap.size WT (T3.drewN nq)) := fun nq => b3.trans (⟨rfl, rfl, rfl, Nat.le_refl _, fun _ _ => rfl⟩ : Below WT.heap.size T3 (T3.drewN nq))
                have hcmN : ∀ nq, (T3.drewN nq).cell? ⟨mb, 0, none⟩ = some (.slice (some ⟨g9, o9, none⟩) m9 c9) := fun nq => hcm.out _ (bN.out nq)
                have hr1 : ∀ nq, (T3.drewN nq).cell? ⟨g9, o9, none⟩ = some (.int .i64 y.1) := fun nq => (hrow.out _ (bN.out nq)).1
                have hr2 : ∀ nq, (T3.drewN nq).cell? ⟨g9, o9 + 1, none⟩ = some (.int .i64 y.2) := fun nq => (hrow.out _ (bN.out nq)).2
                have hb1 : ∀ nq, (T3.drewN nq).cell? ⟨xb, 0, none⟩ = some (.int .i64 y.1) := fun nq => c3.1
                have hb2 : ∀ nq, (T3.drewN nq).cell? ⟨xb, 1, none⟩ = some (.int .i64 y.2) := fun nq => c3.2
                clear hPk hcm hrow b1 b2 b3 m3 c3
                go_wp2_with (first | rw [hT2] | rw [hT3])
                go_quiet ((go_at_call 12; exact Calls.quiet_of_same (hlen.out _ (bN.out _))))
                go_wp2_with fail
                exact ⟨⟨j + 1, by omega, by go_num, hfin.out _ (bN.out _)⟩, by simp [intOf]; omega⟩
          · have h110' : ¬ (-110 : Int) ≤ x := h110
            obtain ⟨r, hr⟩ : ∃ r, (x + 128).tmod 3 = r := ⟨_, rfl⟩
            have hrw : IntKind.i64.wrap r = r := by
              have h1 := Int.tmod_lt_of_pos (x + 128) (show (0 : Int) < 3 by decide)
              have h2 := Int.lt_tmod_of_pos (x + 128) (show (0 : Int) < 3 by decide)
              rw [IntKind.wrap_i64]; omega
            have hxw : IntKind.i64.wrap (x + 128) = x + 128 := i64wP _ (by omega) (by omega)
            obtain ⟨rb, hrb⟩ : ∃ rb, wr.heap.size = rb := ⟨_, rfl⟩
            obtain ⟨A, hA⟩ : ∃ A, wr.alloc (.cells #[.int .i64 r] 3) = A := ⟨_, rfl⟩
            have cA : A.cell? ⟨rb, 0, none⟩ = some (.int .i64 r) := by rw [← hA]; exact cell_at hrb rfl
            have bA : Below wr.heap.size wr A := by rw [← hA]; exact (Below.refl _ _).alloc (Nat.le_refl _) _
            have sA : A.heap.size = rb + 1 := by rw [← hA]; simp [hrb]
            have hPA : Ps w (fun k => Pk sb mb v k ∨ k = rb) sb mb q st v L L nn A := hPH.out.next (F := fun _ => False) (Mv.below bA) (fun _ f => f.elim) (fun k hk => hk.imp id (fun e => by omega)) (fun k p => .inl p)
            have hDr := hidP (hPA.call (f := 9) (args := #[Qt.qp q, .func (.func 10) #[] #[.pointer (some ⟨rb, 0, none⟩)]]) (R := fun e => e = .returned (.int .i64 ((L.length : Int) - (L.filter (keepP r)).length))) (fun E B h => Qt.drop_any bf_less h (p := fun x => x.2.tmod 3 == r) cA match_eg (fun x W c => match_any x W c)))
            unfold Qt.qp at hDr
            obtain ⟨m, hm⟩ : ∃ m, L.length = m := ⟨_, rfl⟩
            obtain ⟨f, hf⟩ : ∃ f, (L.filter (keepP r)).length = f := ⟨_, rfl⟩
            have hfm : f ≤ m := by rw [← hf, ← hm]; exact List.length_filter_le _ _
            have hfI : (f : Int) ≤ (m : Int) := by omega
            have hmn : m ≤ j := by have := hPH.out.len; omega
            have hmI : (m : Int) ≤ 150 := by omega
            rw [hf, hm] at hDr
            obtain ⟨pv, cv, hv⟩ := hPH.out.sv.shape
            rw [hm] at hv
            have hmH := hidP hm
            have hfH := hidP hf
            have hvH := hidP hv
            have nrb : Hid (∀ b, Pk sb mb v b → b ≠ rb) := fun b p e => by
              have hh := hPH.out
              rcases p with p | p | p
              · have := cell_lt hh.cs; simp at this; omega
              · have := hh.cm.lt; omega
              · have := hh.sv.lt p; omega
            clear hPH hPA hm hf hv bA sA
            go_wp2_with (rw [hA])
            refine hDr.out.mono ?_
            rintro e V ⟨rfl, hPV, mV⟩
            have cV : V.cell? ⟨rb, 0, none⟩ = some (.int .i64 r) := mV.cell (a := ⟨rb, 0, none⟩) (fun z => z (.inr rfl)) cA
            have hL0 : Hid (Lc w sb mb q st v L (L.filter (keepP r)) nn rb r 0 (.slice none 0 0) V) := ⟨_, hPV, cV, .inr rfl, .inl ⟨rfl, by simp⟩, fun b hb => by cases hb⟩
            clear hDr hPV mV cV cA
            go_wp2_with fail
            go_loopw [15, 16] (fun a i wr => ∃ (k : Nat), k ≤ m ∧ i = .int .i64 k ∧ Hid (Lc w sb mb q st v L (L.filter (keepP r)) nn rb r k a wr)) (fun _ i _ => m - (intOf i).toNat)
            case atStart => exact ⟨0, by omega, rfl, hL0⟩
            case round =>
              obtain ⟨k, hk, rfl, hLk⟩ := hrel
              clear hL0
              have hLc := hLk.out
              obtain ⟨Pf, hPk, crb, _, svl, _⟩ := id hLc
              have cmb := hPk.cm.c
              have fmb := hPk.cm.f
              rw [hvH.out] at cmb
              obtain ⟨pl, cl, hlv⟩ := svl.shape
              by_cases hkm : k < m
              · obtain ⟨y, hy⟩ : ∃ y, L[k]? = some y := ⟨_, List.getElem?_eq_getElem (by rw [hmH.out]; exact hkm)⟩
                have hkI : (k : Int) < (m : Int) := by omega
                obtain ⟨g, o, c, hgv, rs⟩ := hPk.sv.resolve_left (fun z => by rw [z.2] at hy; cases hy)
                have h2 := rs.ra.at hy
                rw [hvH.out] at hgv
                injection hgv with e1 e2 e3
                subst e1
                subst e3
                clear e2
                have cmN : ∀ nq, (wr.drewN nq).cell? ⟨mb, 0, none⟩ = some (.slice (some ⟨g, o, none⟩) m cv) := fun nq => cmb
                have r1N : ∀ nq, (wr.drewN nq).cell? ⟨g, o + k * 2, none⟩ = some (.int .i64 y.1) := fun nq => h2.1
                have r2N : ∀ nq, (wr.drewN nq).cell? ⟨g, o + k * 2 + 1, none⟩ = some (.int .i64 y.2) := fun nq => h2.2
                have rbN : ∀ nq, (wr.drewN nq).cell? ⟨rb, 0, none⟩ = some (.int .i64 r) := fun nq => crb
                obtain ⟨t, ht⟩ : ∃ t, y.2.tmod 3 = t := ⟨_, rfl⟩
                have htw : IntKind.i64.wrap t = t := by
                  have h1 := Int.tmod_lt_of_pos y.2 (show (0 : Int) < 3 by decide)
                  have h2 := Int.lt_tmod_of_pos y.2 (show (0 : Int) < 3 by decide)
                  rw [IntKind.wrap_i64]; omega
                have bN : Hid (∀ nq, Below wr.heap.size wr (wr.drewN nq)) := fun nq => ⟨rfl, rfl, rfl, Nat.le_refl _, fun _ _ => rfl⟩
                have hkk : keepP r y = !(t == r) := by unfold keepP; rw [ht]
                by_cases htr : t = r
                · have nxt : Hid (∀ nq, Lc w sb mb q st v L (L.filter (keepP r)) nn rb r (k + 1) u15 (wr.drewN nq)) := fun nq => (hLc.below (bN.out nq)).skip hy (by rw [hkk, htr]; simp)
                  subst htr
                  clear hLk hLc hPk svl hlv hy rs h2 hkk hr
                  go_wp2_with fail
                  go_quiet (fail)
                  go_wp2_with fail
                  exact ⟨⟨k + 1, by omega, by go_num, nxt.out _⟩, by simp [intOf]; omega⟩
                · have hk1 : keepP r y = true := by rw [hkk]; simp [htr]
                  have htb : (t == r) = false := by simp [htr]
                  have nxt : Hid (∀ nq, _) := fun nq => (hLc.below (bN.out nq)).app hy hk1 (by rw [hmH.out]; omega)
                  clear hLk hLc hPk svl hlv hy rs h2 hkk hr
                  go_wp2_with fail
                  go_quiet (fail)
                  obtain ⟨A, hA, v', W', hrun, hLn⟩ := nxt.out nq
                  have hLnH := hidP hLn
                  have cm1 := cmN nq
                  have r11 := r1N nq
                  have r21 := r2N nq
                  clear nxt hLn cmN r1N r2N rbN
                  go_wp2_with (first | rw [hA] | (at_builtin; refine wpList_append_run rfl _ _ 29 rfl _ _ _ _ rfl rfl hrun ?_))
                  go_roundw
                  case rel => exact ⟨k + 1, by omega, by go_num, hLnH⟩
                  case measure => simp [intOf]; omega
              · obtain rfl : k = m := by omega
                have hkI : ¬ (k : Int) < (k : Int) := by omega
                have ef : ((L.take k).filter (keepP r)).length = f := by rw [← hmH.out, List.take_length]; exact hfH.out
                rw [ef] at hlv
                subst hlv
                obtain ⟨WT, hWT⟩ : ∃ WT, wr.setCell ⟨mb, 0, none⟩ (.slice pl f cl) = WT := ⟨_, rfl⟩
                have hT : Hid (Pm w sb mb q st (j + 1) WT) := by
                  rw [← hmH.out] at hLc
                  rw [← hWT]
                  exact Lc.fin hLc (by omega)
                clear hLk hLc hPk svl crb ef hr
                go_wp2_with (rw [hWT])
                obtain ⟨v9, L9, n9, hn9, hP9⟩ := hT.out
                obtain ⟨p9, c9, hv9⟩ := hP9.sv.shape
                obtain ⟨m9, hm9⟩ : ∃ m9, L9.length = m9 := ⟨_, rfl⟩
                have hm9j : m9 ≤ j + 1 := by have := hP9.len; omega
                have hfin : Hid (∀ V, Below WT.heap.size WT V → Pm w sb mb q st (j + 1) V) := fun V b => ⟨v9, L9, n9, hn9, hP9.below b⟩
                have hlen : Hid (∀ V, Below WT.heap.size WT V → Calls Tryz.prog 12 #[.pointer (some ⟨q, 0, none⟩)] V fun e V2 => e = .returned (.int .i64 m9) ∧ V2 = V) := fun V b => by
                  have := (hP9.below b).q.len
                  rw [hm9] at this
                  exact this
                have hcm : Hid (∀ V, Below WT.heap.size WT V → V.cell? ⟨mb, 0, none⟩ = some (.slice p9 m9 c9)) := fun V b => by
                  have := (hP9.below b).cm.c
                  rw [hv9, hm9] at this
                  exact this
                clear hT
                rcases L9 with _ | ⟨y, L9⟩
                · obtain rfl : m9 = 0 := by rw [← hm9]; rfl
                  have hPk := hidP (hP9.q.quiet (f := 11) (args := #[Qt.qp q]) (R := fun e => e = .returned (.tuple #[.agg #[.int .i64 0, .int .i64 0], .bool false])) (fun E B h => Qt.peek_none h))
                  unfold Qt.qp at hPk
                  clear hP9 hv9 hm9
                  go_wp2_with fail
                  refine hPk.out.mono ?_
                  rintro e T1 ⟨rfl, _, b1⟩
                  obtain ⟨T2, hT2⟩ : ∃ T2, T1.alloc (.cells #[.int .i64 0, .int .i64 0] 27) = T2 := ⟨_, rfl⟩
                  obtain ⟨xb, hxb⟩ : ∃ xb, T1.heap.size = xb := ⟨_, rfl⟩
                  have hz : Qt.Bz T2 xb := by rw [← hT2, ← hxb]; exact Qt.Bz.new T1
                  obtain ⟨T3, hT3, c3, m3⟩ := hz.put (0, 0)
                  obtain ⟨z1, z2, z3⟩ := hz
                  have b2 : Below T1.heap.size T1 T2 := by rw [← hT2]; exact (Below.refl _ _).alloc (Nat.le_refl _) _
                  have b3 : Below WT.heap.size WT T3 := bmv (b1.trans (b2.mono b1.size)) (Nat.le_refl _) m3 (fun k e => by have := b1.size; omega)
                  have bN : Hid (∀ nq, Below WT.heap.size WT (T3.drewN nq)) := fun nq => b3.trans (⟨rfl, rfl, rfl, Nat.le_refl _, fun _ _ => rfl⟩ : Below WT.heap.size T3 (T3.drewN nq))
                  have hcmN : ∀ nq, (T3.drewN nq).cell? ⟨mb, 0, none⟩ = some (.slice p9 0 c9) := fun nq => hcm.out _ (bN.out nq)
                  clear hPk hcm b1 b2 b3 m3 c3
                  go_wp2_with (first | rw [hT2] | rw [hT3])
                  go_quiet ((go_at_call 12; exact Calls.quiet_of_same (hlen.out _ (bN.out _))))
                  go_wp2_with fail
                  exact ⟨⟨j + 1, by omega, by go_num, hfin.out _ (bN.out _)⟩, by simp [intOf]; omega⟩
                · have hPk := hidP (hP9.q.quiet (f := 11) (args := #[Qt.qp q]) (R := fun e => e = .returned (.tuple #[.agg #[.int .i64 y.1, .int .i64 y.2], .bool true])) (fun E B h => Qt.peek_some h))
                  unfold Qt.qp at hPk
                  obtain ⟨g9, o9, d9, hg9, r9⟩ := hP9.sv.resolve_left (fun z => by cases z.2)
                  have hrow : Hid (∀ V, Below WT.heap.size WT V → V.cell? ⟨g9, o9, none⟩ = some (.int .i64 y.1) ∧ V.cell? ⟨g9, o9 + 1, none⟩ = some (.int .i64 y.2)) := fun V b => by
                    have h2 := r9.ra.at (j := 0) (x := y) rfl
                    simp only [Nat.zero_mul, Nat.add_zero] at h2
                    exact ⟨bcell b (cell_lt h2.1) h2.1, bcell b (cell_lt h2.2) h2.2⟩
                  rw [hv9] at hg9
                  injection hg9 with e1 e2 e3
                  subst e1
                  subst e3
                  have hm0 : (0 : Int) < (m9 : Int) := by rw [← hm9, List.length_cons]; omega
                  have hm0d : decide ((0 : Int) < (m9 : Int)) = true := decide_eq_true hm0
                  have hm0n : 0 < m9 := by omega
                  have hm0e : decide (0 < m9) = true := decide_eq_true hm0n
                  have hm0z : ¬ m9 = 0 := by omega
                  clear hP9 hv9 hm9 e2 r9
                  go_wp2_with fail
                  refine hPk.out.mono ?_
                  rintro e T1 ⟨rfl, _, b1⟩
                  obtain ⟨T2, hT2⟩ : ∃ T2, T1.alloc (.cells #[.int .i64 0, .int .i64 0] 27) = T2 := ⟨_, rfl⟩
                  obtain ⟨xb, hxb⟩ : ∃ xb, T1.heap.size = xb := ⟨_, rfl⟩
                  have hz : Qt.Bz T2 xb := by rw [← hT2, ← hxb]; exact Qt.Bz.new T1
                  obtain ⟨T3, hT3, c3, m3⟩ := hz.put y
                  obtain ⟨z1, z2, z3⟩ := hz
                  have b2 : Below T1.heap.size T1 T2 := by rw [← hT2]; exact (Below.refl _ _).alloc (Nat.le_refl _) _
                  have b3 : Below WT.heap.size WT T3 := bmv (b1.trans (b2.mono b1.size)) (Nat.le_refl _) m3 (fun k e => by have := b1.size; omega)
                  have bN : Hid (∀ nq, Below WT.heap.size WT (T3.drewN nq)) := fun nq => b3.trans (⟨rfl, rfl, rfl, Nat.le_refl _, fun _ _ => rfl⟩ : Below WT.heap.size T3 (T3.drewN nq))
                  have hcmN : ∀ nq, (T3.drewN nq).cell? ⟨mb, 0, none⟩ = some (.slice (some ⟨g9, o9, none⟩) m9 c9) := fun nq => hcm.out _ (bN.out nq)
                  have hr1 : ∀ nq, (T3.drewN nq).cell? ⟨g9, o9, none⟩ = some (.int .i64 y.1) := fun nq => (hrow.out _ (bN.out nq)).1
                  have hr2 : ∀ nq, (T3.drewN nq).cell? ⟨g9, o9 + 1, none⟩ = some (.int .i64 y.2) := fun nq => (hrow.out _ (bN.out nq)).2
                  have hb1 : ∀ nq, (T3.drewN nq).cell? ⟨xb, 0, none⟩ = some (.int .i64 y.1) := fun nq => c3.1
                  have hb2 : ∀ nq, (T3.drewN nq).cell? ⟨xb, 1, none⟩ = some (.int .i64 y.2) := fun nq => c3.2
                  clear hPk hcm hrow b1 b2 b3 m3 c3
                  go_wp2_with (first | rw [hT2] | rw [hT3])
                  go_quiet ((go_at_call 12; exact Calls.quiet_of_same (hlen.out _ (bN.out _))))
                  go_wp2_with fail
                  exact ⟨⟨j + 1, by omega, by go_num, hfin.out _ (bN.out _)⟩, by simp [intOf]; omega⟩
      · obtain rfl : j = n := by omega
        have hjI : ¬ (j : Int) < (j : Int) := by omega
        go_wp2_with fail
        have hPL : Hid (∃ L v nn, L.length ≤ j ∧ Ps w (Pk sb mb v) sb mb q st v L L nn wr) := by
          obtain ⟨v, L, nn, hnn, hP⟩ := hst.out
          exact ⟨L, v, nn, by have := hP.len; omega, hP⟩
        clear hst
        go_loopw [19] (fun i wr => ∃ (r : Nat), r ≤ 2 ∧ i = .int .i64 r ∧ Hid (∃ L v nn, L.length ≤ j ∧ Ps w (Pk sb mb v) sb mb q st v L L nn wr)) (fun i _ => 2 - (intOf i).toNat)
        case atStart => exact ⟨0, by omega, rfl, hPL⟩
        case round =>
          obtain ⟨r, hr, rfl, hQ⟩ := hrel
          clear hPL
          obtain ⟨L, v, nn, hLj, hP⟩ := hQ.out
          by_cases hr2 : r < 2
          · have hrI : (r : Int) < 2 := by omega
            obtain ⟨A0, hA0⟩ : ∃ A0, wr.alloc (.cells #[.int .i64 0] 3) = A0 := ⟨_, rfl⟩
            obtain ⟨atb, hatb⟩ : ∃ atb, wr.heap.size = atb := ⟨_, rfl⟩
            obtain ⟨A, hA⟩ : ∃ A, A0.setCell ⟨atb, 0, none⟩ (.int .i64 0) = A := ⟨_, rfl⟩
            have cA0 : Cl atb (.int .i64 0) A0 := ⟨by rw [← hA0]; exact cell_at hatb rfl, by rw [← hA0]; exact froz_new hatb⟩
            have mA0 : Mv (fun k => k = atb) A0 A := by rw [← hA]; exact Mv.set1 (E := fun k => k = atb) rfl _
            have bA0 : Below wr.heap.size wr A0 := by rw [← hA0]; exact (Below.refl _ _).alloc (Nat.le_refl _) _
            obtain ⟨A2, hA2⟩ : ∃ A2, A.alloc (.cells #[.bool true] 4) = A2 := ⟨_, rfl⟩
            obtain ⟨okb, hokb⟩ : ∃ okb, A.heap.size = okb := ⟨_, rfl⟩
            have hF := hidP (Qt.allf_any q A2)
            obtain ⟨A3, hA3⟩ : ∃ A3, A2.alloc (.cells #[Qt.qp q] 24) = A3 := ⟨_, rfl⟩
            rw [hA3] at hF
            obtain ⟨bl, hbl⟩ : ∃ bl, A2.heap.size = bl := ⟨_, rfl⟩
            have bA : Below wr.heap.size wr A := bmv bA0 (Nat.le_refl _) mA0 (fun k e => by omega)
            have bA2 : Below A.heap.size A A2 := by rw [← hA2]; exact (Below.refl _ _).alloc (Nat.le_refl _) _
            have bA3 : Below A2.heap.size A2 A3 := by rw [← hA3]; exact (Below.refl _ _).alloc (Nat.le_refl _) _
            have sA : A.heap.size = atb + 1 := by rw [← hA, ← hA0]; simp [hatb]
            have sA2 : A2.heap.size = atb + 2 := by rw [← hA2]; simp [sA]
            have sA3 : A3.heap.size = atb + 3 := by rw [← hA3]; simp [sA2]
            have bAll : Below wr.heap.size wr A3 := (bA.trans (bA2.mono bA.size)).trans (bA3.mono (Nat.le_trans bA.size bA2.size))
            have lmb : mb < atb := by rw [← hatb]; exact hP.cm.lt
            have lsb : sb < atb := by rw [← hatb]; exact cell_lt hP.cs
            have lvb : ∀ k, Qt.nbk v = some k → k < atb := fun k hk => by rw [← hatb]; exact hP.sv.lt hk
            have lPk : ∀ k, Pk sb mb v k → k < atb := fun k hk => by
              rcases hk with e | e | e
              · omega
              · omega
              · exact lvb k e
            have hlo := hP.lo
            have cA : Cl atb (.int .i64 0) A3 := by
              have : Cl atb (.int .i64 0) A := by rw [← hA]; exact cA0.set _
              exact (this.mv (E := fun _ => False) (Mv.below bA2) (fun h => h)).mv (E := fun _ => False) (Mv.below bA3) (fun h => h)
            have cO : Cl okb (.bool true) A3 := by
              have : Cl okb (.bool true) A2 := ⟨by rw [← hA2]; exact cell_at hokb rfl, by rw [← hA2]; exact froz_new hokb⟩
              exact this.mv (E := fun _ => False) (Mv.below bA3) (fun h => h)
            have hP3 : Ps w (fun k => Pk sb mb v k ∨ k = okb ∨ k = atb) sb mb q st v L L nn A3 := hP.next (F := fun _ => False) (Mv.below bAll) (fun _ f => f.elim) (fun k hk => hk.imp id (fun e => by omega)) (fun k p => .inl p)
            have hall := hP3.q.all (bl := bl) (by rw [← hA3]; exact cell_at hbl rfl) (f := 14) (caps := #[.pointer (some ⟨okb, 0, none⟩), .pointer (some ⟨atb, 0, none⟩), .pointer (some ⟨mb, 0, none⟩), .pointer (some ⟨sb, 0, none⟩)]) (enters_of Tryz.func14 (by kernel_rfl) rfl) (J := Jp A3.heap.size L okb atb mb sb v st) (Jx := JpX okb atb st) Jp.ter (takp (by omega) (by omega) ⟨by omega, by omega⟩ ⟨by omega, by omega⟩) (D := fun k => k = okb ∨ k = atb) ⟨[], rfl, fun _ => Iff.rfl, cO, cA, ⟨by omega, hP3.cm.c⟩, ⟨hP3.sv, fun k hk => by have := lvb k hk; omega⟩, ⟨by omega, hP3.cs⟩, fun i h1 h2 => by simp at h2; omega⟩ (fun k hk => ⟨.inr hk, by omega⟩)
            obtain ⟨pv, cv, hv⟩ := hP.sv.shape
            obtain ⟨m, hm⟩ : ∃ m, L.length = m := ⟨_, rfl⟩
            have hallH : Hid (Calls Tryz.prog 28 #[.func (.func 14) #[] #[.pointer (some ⟨okb, 0, none⟩), .pointer (some ⟨atb, 0, none⟩), .pointer (some ⟨mb, 0, none⟩), .pointer (some ⟨sb, 0, none⟩)], .pointer (some ⟨bl, 0, none⟩)] A3 fun e V => e = .returned (.tuple #[]) ∧ ∃ a : Nat, V.cell? ⟨okb, 0, none⟩ = some (.bool true) ∧ V.cell? ⟨atb, 0, none⟩ = some (.int .i64 a) ∧ (a = m ∨ (a : Int) = st) ∧ V.cell? ⟨mb, 0, none⟩ = some (.slice pv m cv) ∧ V.cell? ⟨sb, 0, none⟩ = some (.int .i64 st) ∧ Hid (Ps w (Pk sb mb v) sb mb q st v L L nn V)) := by
              refine hall.mono ?_
              rintro e V ⟨rfl, mV, ⟨D', gD, hJ⟩, hQV⟩
              have hPV : Ps w (Pk sb mb v) sb mb q st v L L nn V := hP3.keep mV (fun k p _ f => by have := lPk k p; rcases f with f | f <;> omega) (hQV _ (fun k hk => .inl (.inl hk))) (fun _ p => p)
              have cmV := hPV.cm.c
              rw [hv, hm] at cmV
              rcases hJ with ⟨done, z1, z2, z3, z4, _⟩ | ⟨a, z3, z4, z5⟩
              · rw [List.append_nil] at z1
                subst z1
                exact ⟨rfl, done.length, z3.c, z4.c, .inl hm, cmV, hPV.cs, hPV⟩
              · exact ⟨rfl, a, z3.c, z4.c, .inr z5, cmV, hPV.cs, hPV⟩
            unfold Qt.qp at hF
            obtain ⟨cA1, fA1⟩ := cA0
            clear hQ hP hP3 hall cA cO bA0 mA0 bA bA2 bA3 sA sA2 sA3 bAll lmb lsb lvb lPk hv hm hlo
            go_wp2_with (first | rw [hA0] | rw [hA] | rw [hA2])
            refine hF.out.mono ?_
            rintro e V1 ⟨rfl, rfl⟩
            rw [hbl]
            clear hF
            go_wp2_with fail
            refine hallH.out.mono ?_
            rintro e V ⟨rfl, a, z1, z2, z3, z4, z5, hPV⟩
            clear hallH
            by_cases ham : a = m
            · subst ham
              go_wp2_with fail
              exact ⟨⟨r + 1, by omega, by go_num, L, v, nn, hLj, hPV.out⟩, by simp [intOf]; omega⟩
            · have haI : ¬ (a : Int) = (m : Int) := by omega
              have hast : (a : Int) = st := z3.resolve_left ham
              rw [hast] at z2 haI
              go_wp2_with fail
              exact ⟨⟨r + 1, by omega, by go_num, L, v, nn, hLj, hPV.out⟩, by simp [intOf]; omega⟩
          · obtain rfl : r = 2 := by omega
            obtain ⟨pv, cv, hv⟩ := hP.sv.shape
            obtain ⟨m, hm⟩ : ∃ m, L.length = m := ⟨_, rfl⟩
            have hcm : ∀ nq, (wr.drewN nq).cell? ⟨mb, 0, none⟩ = some (.slice pv m cv) := fun nq => by rw [← hm, ← hv]; exact hP.cm.c
            have hLen : Hid (∀ nq, Calls Tryz.prog 12 #[.pointer (some ⟨q, 0, none⟩)] (wr.drewN nq) fun e V => e = .returned (.int .i64 m) ∧ V = wr.drewN nq) := fun nq => by
              have := (hP.below (⟨rfl, rfl, rfl, Nat.le_refl _, fun _ _ => rfl⟩ : Below wr.heap.size wr (wr.drewN nq))).q.len
              rw [hm] at this
              exact this
            have fin : Hid (Below w.heap.size w wr) := by obtain ⟨_, _, _, _, _, b⟩ := hP.q; exact b
            have finN : Hid (∀ nq, Below w.heap.size w (wr.drewN nq)) := fun nq => fin.out.trans (⟨rfl, rfl, rfl, Nat.le_refl _, fun _ _ => rfl⟩ : Below w.heap.size wr (wr.drewN nq))
            clear hQ hP hv hm
            go_wp2_with fail
            go_quiet ((go_at_call 12; exact Calls.quiet_of_same (hLen.out _)))
            go_wp2_with fail
            go_ret
            exact ⟨rfl, finN.out _⟩
  · have e1 : (150 : Int) < (n : Int) := by omega
    go_enter Tryz.func3, Tryz.ntmps3
    go_wp2_with (rw [hW0])
    refine hK.out.mono ?_
    rintro e w1 ⟨rfl, bw1⟩
    have fin := hidP (b0H.out.trans (bw1.mono b0H.out.size))
    clear bw1 hK
    go_wp2_with fail
    go_ret
    exact ⟨rfl, fin.out⟩
end Go.Proofs.YteimalemecgomaaGreat
