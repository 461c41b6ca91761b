/- ProcFamily: the walk. -/
import Derived.Test.YtkefnmjoehnakaaFM1
import Derived.Test.YtkefnmjoehnakaaL2
namespace Go.Proofs.Ytkefnmjoehnakaa
open Go.RowKit Go.Shelf
theorem wpList_append_run {P : Program} {w : World} {ops : Array Oper} {rest : List Oper} {o : Oper} {a : Act} {Q : Exit → Act → World → Prop} (hgd : o.guard = none) (s x : Operand) (t : TypeId)
    (ho : o.op = .call { callee := .builtin .append, args := #[s, x], argTypes := #[t, t] }) (v xv v' : Value) (w' : World) (hs : a.eval s = v) (hx : a.eval x = xv)
    (hr : (Builtin.append_ #[t, t] o.type #[v, xv]).run P w = .ok v' w') (h : wpList P ops Q rest (a.put o.dst v') w') : wpList P ops Q (o :: rest) a w := by
  refine wpList_plain hgd fun K hK => ?_
  unfold Oper.wp execOp
  simp only [ho, resolve, invoke, builtin, Sem.run_bind, Sem.run_pure, Result.andThen_ok, List.map_toArray, List.map_cons, List.map_nil, hs, hx, hr]
  exact hK _ _ h
theorem infoZ : ∃ i, Try.prog.info? 3 = some i ∧ i.zero = some (.int .i64 0) ∧ i.size = 1 ∧ i.bytes = 8 := by
  have h : (Try.prog.info? 3).map (fun i => (i.zero, i.size, i.bytes)) = some (some (.int .i64 0), 1, 8) := by kernel_rfl
  cases e : Try.prog.info? 3 with
  | none => rw [e] at h; cases h
  | some i => rw [e] at h; simp at h; exact ⟨i, rfl, h⟩
/-- A kid more. -/
theorem Kr.append {w W : World} {bt bm : Nat} {v : Value} {K : List Int} {x : Int} (h : Kr w bt bm v K W) (hw : w.heap.size ≤ W.heap.size) (h1 : bt < W.heap.size) (h2 : bm < W.heap.size) (hl : K.length ≤ 1000) :
    ∃ v' W', (Builtin.append_ #[58, 58] 58 #[v, .slice (some ⟨W.heap.size, 0, none⟩) 1 1]).run Try.prog (W.alloc (.cells #[.int .i64 x] 3)) = .ok v' W' ∧ Kr w bt bm v' (K ++ [x]) W' ∧ Mv (fun k => v.ownBlock = some k) W W' ∧ ∃ p n c, v' = .slice p n c := by
  obtain ⟨i0, hi, hz0, hz1, hz2⟩ := infoZ
  obtain ⟨v', W', hrun, hown, hgr, _, hat⟩ := run_append_own_at (P := Try.prog) (W.alloc (.cells #[.int .i64 x] 3)) w.heap.size 58 58 3 i0 (.int .i64 0) 1 8 Try.underlying58 hi hz0 hz1 hz2 rfl (by decide) v _ _ (h.n.alloc _) ⟨W.heap.size, 0, none⟩ 1 1 [.int .i64 x] rfl (row_news1 _ _ _) (by simp [Value.oneCell']) (by unfold maxLen; omega) (by omega) (by simp; omega)
  refine ⟨v', W', hrun, ⟨by simpa using hown, fun g hg => ?_⟩, (Mv.alloc _ _ _).trans' ((Mv.refl _ _).grown hgr (fun k e => .inl (by rw [e]))), ?_⟩
  · rcases hat with q | q
    · exact h.b g (q ▸ hg)
    · rw [hg] at q
      simp at q
      omega
  · rcases hown.2 with ⟨e, _⟩ | ⟨g, cp, cur, e, _⟩
    · exact ⟨_, _, _, e⟩
    · exact ⟨_, _, _, e⟩
set_option maxRecDepth 100000 in
set_option maxHeartbeats 2000000 in
theorem family_walk (n1 n2 : Nat) (en : Bool) (w : World) (h1 : n1 ≤ 255) (h2 : n2 ≤ 255) :
    Calls Try.prog 6 #[.int .u8 n1, .int .u8 n2, .bool en] w fun e w' => e = .returned (.bool true) ∧ Below w.heap.size w w' := by
  have hK := hidP (known_any w)
  obtain ⟨a, ha⟩ : ∃ a, n1 % 6 = a := ⟨_, rfl⟩
  obtain ⟨b, hb⟩ : ∃ b, n2 % 6 = b := ⟨_, rfl⟩
  have ha6 : a < 6 := by omega
  have hb6 : b < 6 := by omega
  have hma : ((n1 : Nat) : Int).tmod 6 = (a : Int) := by rw [Int.tmod_eq_emod_of_nonneg (by omega)]; omega
  have hmb : ((n2 : Nat) : Int).tmod 6 = (b : Int) := by rw [Int.tmod_eq_emod_of_nonneg (by omega)]; omega
  clear ha hb h1 h2
  go_enter Try.func6, Try.ntmps6
  go_wp2_with fail
  refine hK.out.mono ?_
  rintro e V ⟨rfl, hbV⟩
  have hN := hidP (new_n 60 V)
  go_wp2_with fail
  refine hN.out.mono ?_
  rintro e W1 ⟨bt, bm, rfl, T1'⟩
  have T1 := T1'.from hbV
  have wf1 := Wf.new 60
  rw [show roomOf 60 = 60 from rfl] at T1 wf1
  have hS := hidP (spawn_n T1 wf1 (by omega) 1 gB cB (by omega) (by omega) (s := ⟨2, 0, 2, [⟨2, 1, gB, false, 0, cB, false, false⟩]⟩) rfl)
  have wf2 : Hid (Wf 60 2 [⟨2, 1, gB, false, 0, cB, false, false⟩]) := wf1.spawn 1 gB cB
  simp only [gB, cB] at hS
  clear T1 T1' wf1 hN hbV hK
  go_wp2_with fail
  refine hS.out.mono ?_
  rintro e W2 ⟨rfl, T2, _⟩
  have T2H := hidP T2
  clear hS T2
  go_wp2_with fail
  go_loopw [12, 13] (fun lv i wr => ∃ (j : Nat) (last : Int) (L : Ps) (K : List Int), j ≤ a ∧ i = .int .i64 j ∧ Hid (Tn w bt bm 60 last L wr ∧ Wf 60 last L ∧ Fam K L ∧ L.length = 1 + j + j * b ∧ last = (L.length : Int) + 1 ∧ Kr w bt bm lv K wr ∧ K.length = j)) (fun _ i _ => a - (intOf i).toNat)
  case atStart => exact ⟨0, 2, [⟨2, 1, gB, false, 0, cB, false, false⟩], [], by omega, rfl, T2H.out, wf2.out, ⟨fun p hp => by simp at hp; subst hp; exact ⟨rfl, rfl⟩, fun p hp => by simp at hp; subst hp; exact ⟨rfl, rfl⟩, ⟨⟨2, 1, gB, false, 0, cB, false, false⟩, by simp, rfl, rfl⟩, fun k hk => by simp at hk, fun p hp hgt => by simp at hp; subst hp; simp at hgt⟩, by simp, by simp, ⟨World.ownsRow_nil _ _ _ _, fun g hg => by cases hg⟩, rfl⟩
  case round =>
    clear T2H wf2
    obtain ⟨j, last, L, K, hj, rfl, hI⟩ := hrel
    by_cases hlt : j < a
    · have hltI : (j : Int) < (a : Int) := by omega
      have hjb : j * b ≤ 4 * 5 := Nat.mul_le_mul (by omega) (by omega)
      have hlast : 2 ≤ last ∧ last ≤ 100 := by have h1 := hI.out.2.2.2.1; have h2 := hI.out.2.2.2.2.1; omega
      obtain ⟨k0, hk0⟩ : ∃ k0, last + 1 = k0 := ⟨_, rfl⟩
      have hfo : fkP 60 last L 2 = ⟨k0, 0, k0, L ++ [newP last 2 gB cB]⟩ := by
        rw [← hk0]
        exact fk_ok hI.out.2.2.1 hI.out.2.1 (by obtain ⟨p, hp, e, _⟩ := hI.out.2.2.1.two; exact ⟨p, hp, e⟩) (by have := hI.out.2.2.2.1; omega)
      have hFk := hidP (fork_n hI.out.1 hI.out.2.1 (by omega) 2 (by omega) (by omega) hfo)
      have hwf : Hid (Wf 60 k0 (L ++ [newP last 2 gB cB])) := by
        have := hI.out.2.1.fork 2
        rw [hfo] at this
        exact this
      have hk0H := hidP hk0
      clear hfo hk0
      go_wp2_with fail
      refine hFk.out.mono ?_
      rintro e W3 ⟨rfl, T3, m3⟩
      have hKr := hI.out.2.2.2.2.2.1.step m3
      obtain ⟨v', W4, hrun, hK4, mv4, p', n', c', hv'⟩ := hKr.append (x := k0) T3.be.size T3.tb.lt T3.tb.ltm (by have := hI.out.2.2.2.2.2.2; omega)
      have T4 : Tn w bt bm 60 k0 (L ++ [newP last 2 gB cB]) W4 := by
        refine ⟨T3.tb.mv mv4 (fun q => (hKr.b bt q).1 rfl) (fun q => (hKr.b bm q).2 rfl), T3.be.trans (mv4.toBelow T3.be.size (fun x hx q => ?_)), T3.lt, T3.lm⟩
        have := (hKr.n.lt x q).1
        omega
      obtain ⟨M, hM⟩ : ∃ M, 1 + j + j * b = M := ⟨_, rfl⟩
      have L4 : Hid (Tn w bt bm 60 k0 (L ++ [newP last 2 gB cB]) W4 ∧ Wf 60 k0 (L ++ [newP last 2 gB cB]) ∧ Fam (K ++ [k0]) (L ++ [newP last 2 gB cB]) ∧ (L ++ [newP last 2 gB cB]).length = M + 1 + 0 ∧ k0 = ((L ++ [newP last 2 gB cB]).length : Int) + 1 ∧ Kr w bt bm v' (K ++ [k0]) W4) := by
        have h1 := hI.out.2.2.2.1
        have h2 := hI.out.2.2.2.2.1
        have h3 := hk0H.out
        have hf := hI.out.2.2.1.kid2 hI.out.2.1 hlast.1
        rw [h3] at hf
        refine ⟨T4, hwf.out, hf, by simp; omega, by simp; omega, hK4⟩
      have hKl : Hid ((K ++ [k0]).length = j + 1) := by show _ = _; simp; exact hI.out.2.2.2.2.2.2
      have hMb : M ≤ 25 := by omega
      obtain ⟨K1, hK1⟩ : ∃ K1, K ++ [k0] = K1 := ⟨_, rfl⟩
      have hkK : Hid (k0 ∈ K1) := by show _ ∈ _; rw [← hK1]; simp
      have hk0b : 2 ≤ k0 ∧ k0 ≤ 101 := by have := hk0H.out; omega
      rw [hK1] at L4 hKl
      subst hv'
      have hMH := hidP hM
      obtain ⟨W3a, hW3a⟩ : ∃ W3a, W3.alloc (.cells #[.int .i64 k0] 3) = W3a := ⟨_, rfl⟩
      rw [hW3a] at hrun
      clear hFk hKr hK4 mv4 T4 T3 m3 hwf hI hM hjb hK1 hk0H hlast
      go_wp2_with (first | rw [hW3a] | (at_builtin; refine wpList_append_run rfl _ _ 58 rfl _ _ _ _ rfl rfl hrun ?_))
      clear hrun hW3a
      go_loopw [16] (fun i wr => ∃ (q : Nat) (last2 : Int) (L2 : Ps), q ≤ b ∧ i = .int .i64 q ∧ Hid (Tn w bt bm 60 last2 L2 wr ∧ Wf 60 last2 L2 ∧ Fam K1 L2 ∧ L2.length = M + 1 + q ∧ last2 = (L2.length : Int) + 1 ∧ Kr w bt bm (.slice p' n' c') K1 wr)) (fun i _ => b - (intOf i).toNat)
      case atStart => exact ⟨0, _, _, by omega, rfl, L4.out⟩
      case round =>
        clear L4
        obtain ⟨q, last2, L2, hq, rfl, hI2⟩ := hrel
        by_cases hlt2 : q < b
        · have hltI2 : (q : Int) < (b : Int) := by omega
          have hla2 : 1 ≤ last2 ∧ last2 ≤ 200 := by have h1 := hI2.out.2.2.2.1; have h2 := hI2.out.2.2.2.2.1; omega
          have hfo : fkP 60 last2 L2 k0 = ⟨last2 + 1, 0, last2 + 1, L2 ++ [newP last2 k0 gB cB]⟩ := fk_ok hI2.out.2.2.1 hI2.out.2.1 (hI2.out.2.2.1.kid k0 hkK.out).2 (by have := hI2.out.2.2.2.1; omega)
          have hFk := hidP (fork_n hI2.out.1 hI2.out.2.1 (by omega) k0 (by omega) (by omega) hfo)
          have hwf : Hid (Wf 60 (last2 + 1) (L2 ++ [newP last2 k0 gB cB])) := by
            have := hI2.out.2.1.fork k0
            rw [hfo] at this
            exact this
          clear hfo
          go_wp2_with fail
          refine hFk.out.mono ?_
          rintro e W5 ⟨rfl, T5, m5⟩
          have fin : Hid (Tn w bt bm 60 (last2 + 1) (L2 ++ [newP last2 k0 gB cB]) W5 ∧ Wf 60 (last2 + 1) (L2 ++ [newP last2 k0 gB cB]) ∧ Fam K1 (L2 ++ [newP last2 k0 gB cB]) ∧ (L2 ++ [newP last2 k0 gB cB]).length = M + 1 + (q + 1) ∧ last2 + 1 = ((L2 ++ [newP last2 k0 gB cB]).length : Int) + 1 ∧ Kr w bt bm (.slice p' n' c') K1 W5) := by
            have h1 := hI2.out.2.2.2.1
            have h2 := hI2.out.2.2.2.2.1
            exact ⟨T5, hwf.out, hI2.out.2.2.1.grand hI2.out.2.1 hkK.out, by simp; omega, by simp; omega, hI2.out.2.2.2.2.2.step m5⟩
          clear hFk T5 m5 hwf hI2
          go_wp2_with fail
          exact ⟨⟨q + 1, _, _, by omega, by go_num, fin⟩, by simp [intOf]; omega⟩
        · have hge2 : ¬ (q : Int) < (b : Int) := by omega
          have fin : Hid (Tn w bt bm 60 last2 L2 wr ∧ Wf 60 last2 L2 ∧ Fam K1 L2 ∧ L2.length = 1 + (j + 1) + (j + 1) * b ∧ last2 = (L2.length : Int) + 1 ∧ Kr w bt bm (.slice p' n' c') K1 wr ∧ K1.length = j + 1) := by
            have h1 := hI2.out.2.2.2.1
            have h3 := hMH.out
            have h4 : (j + 1) * b = j * b + b := Nat.succ_mul j b
            exact ⟨hI2.out.1, hI2.out.2.1, hI2.out.2.2.1, by omega, hI2.out.2.2.2.2.1, hI2.out.2.2.2.2.2, hKl.out⟩
          clear hI2
          go_wp2_with fail
          exact ⟨⟨j + 1, _, _, _, by omega, by go_num, fin⟩, by simp [intOf]; omega⟩
    · have hge : ¬ (j : Int) < (a : Int) := by omega
      have hja : j = a := by omega
      have hI' := hidP hI.out
      rw [hja] at hI'
      clear hI hja hlt
      cases en with
      | true =>
        have hex := hI'.out.2.2.1.exit hI'.out.2.1
        have hEx := hidP (exit_n hI'.out.1 hI'.out.2.1 (by have h1 := hI'.out.2.2.2.2.1; have := hI'.out.2.1.len'; omega) 2 0 (by omega) (by omega) hex.1 rfl)
        have hexH := hidP hex
        clear hex
        go_wp2_with fail
        refine hEx.out.mono ?_
        rintro e W1 ⟨rfl, T1, m1⟩
        obtain ⟨L1, hL1⟩ : ∃ L1, exL L 2 0 = L1 := ⟨_, rfl⟩
        have R1 : Hid (Tn w bt bm 60 last L1 W1 ∧ Wf 60 last L1 ∧ Fin2 1 K L1 ∧ L1.length = 1 + a + a * b ∧ Kr w bt bm u12 K W1 ∧ K.length = a ∧ last ≤ 100) := by
          rw [← hL1]
          exact ⟨T1, hI'.out.2.1.exit 2 0, hexH.out.2.1, by rw [hexH.out.2.2]; exact hI'.out.2.2.2.1, hI'.out.2.2.2.2.2.1.step m1, hI'.out.2.2.2.2.2.2, by have h1 := hI'.out.2.2.2.2.1; have := hI'.out.2.1.len'; omega⟩
        clear hEx hexH T1 m1 hL1 hI'
        obtain ⟨p, m, c, hv⟩ : ∃ p m c, u12 = .slice p m c := by
          rcases R1.out.2.2.2.2.1.n.2 with ⟨e, _⟩ | ⟨g, cp, cur, e, _⟩
          · exact ⟨_, _, _, e⟩
          · exact ⟨_, _, _, e⟩
        have hmKH : Hid (m = K.length) := by
          show _ = _
          rcases R1.out.2.2.2.2.1.n.2 with ⟨e, e0⟩ | ⟨g, cp, cur, e, _⟩
          · rw [hv] at e; injection e with _ e2 _; omega
          · rw [hv] at e; injection e with _ e2 _
        have hm6 : m ≤ 6 := by have h1 := hmKH.out; have := R1.out.2.2.2.2.2.1; omega
        subst hv
        have hKc : Hid (0 < m → ∃ gk, p = some ⟨gk, 0, none⟩ ∧ gk < W1.heap.size ∧ ∀ (i : Nat) (z : Int), K[i]? = some z → W1.cell? ⟨gk, i, none⟩ = some (.int .i64 z)) := by
          intro hm0
          rcases R1.out.2.2.2.2.1.n.2 with ⟨e, e0⟩ | ⟨g, cp, cur, e, _, hg, _⟩
          · have := hmKH.out; omega
          · injection e with e1 e2 e3
            refine ⟨g, e1, lt_of_heap hg, fun i z hz => ?_⟩
            have := R1.out.2.2.2.2.1.n.cells (g := g) (by rw [e1, e2]; rfl) i (.int .i64 z) (by rw [List.getElem?_map, hz]; rfl)
            rw [Addr.add_lit, Nat.zero_add] at this
            exact this
        have hA := hidP (all_0 bt bm 60 last L1 W1 R1.out.1.tb R1.out.2.1.srt (by have := R1.out.2.1.len'; omega) (fun p hp => by have := R1.out.2.1.rng p hp; have := R1.out.2.2.2.2.2.2; omega))
        go_wp2_with fail
        refine hA.out.mono ?_
        rintro e W5 ⟨v, rfl, hrow, hb5⟩
        clear hA
        obtain ⟨N, hN⟩ : ∃ N, L1.length = N := ⟨_, rfl⟩
        rw [hN] at hrow
        obtain ⟨g, cp, rfl⟩ := ownsRow_succ hrow
        have hcs : Hid (∀ (k : Nat) (x : Pr), (one :: L1)[k]? = some x → ∀ q, q < 6 → ∀ z, (prC x)[q]? = some z → W5.cell? ⟨g, k * 6 + q, none⟩ = some z) := fun k x hx q hq z hz => by
          have h1 := prs_at hx q hq
          have h2 := hrow.cells (g := g) rfl (k * 6 + q) z (by rw [h1]; exact hz)
          rw [Addr.add_lit, Nat.zero_add] at h2
          exact h2
        have hKc5 : Hid (0 < m → ∃ gk, p = some ⟨gk, 0, none⟩ ∧ ∀ (i : Nat) (z : Int), K[i]? = some z → W5.cell? ⟨gk, i, none⟩ = some (.int .i64 z)) := fun hm0 => by
          obtain ⟨gk, e1, e2, e3⟩ := hKc.out hm0
          exact ⟨gk, e1, fun i z hz => (Mv.below (E := fun _ => False) hb5).cell (fun h => h) (e3 i z hz)⟩
        have hN64 : N ≤ 64 := by rw [← hN]; exact R1.out.2.1.len'
        have hNH := hidP hN
        have hbe : Hid (Below w.heap.size w W5) := R1.out.1.be.trans (hb5.mono R1.out.1.be.size)
        have hF := hidP R1.out.2.2.1
        have hNab : Hid (N = 1 + a + a * b) := by show _ = _; rw [← hN]; exact R1.out.2.2.2.1
        obtain ⟨ab, hab⟩ : ∃ ab, a * b = ab := ⟨_, rfl⟩
        have habI : (a : Int) * (b : Int) = (ab : Int) := by rw [← hab]; simp
        have hab25 : ab ≤ 25 := by rw [← hab]; exact Nat.le_trans (Nat.mul_le_mul (by omega : a ≤ 5) (by omega : b ≤ 5)) (by omega)
        rw [hab] at hNab
        clear hrow hb5 hKc hN R1 hab
        go_wp2_with fail
        go_loopw [17, 19] (fun nv iv wr => ∃ q : Nat, q ≤ N + 1 ∧ iv = .int .i64 q ∧ nv = .int .i64 ((q - 2 : Nat) : Int) ∧ Hid (Below W5.heap.size W5 wr)) (fun _ iv _ => N + 1 - (intOf iv).toNat)
        case atStart => exact ⟨0, by omega, rfl, rfl, Below.refl _ _⟩
        case round =>
          obtain ⟨V6, hV6⟩ : ∃ V6, V6 = wr := ⟨_, rfl⟩
          subst hV6
          obtain ⟨q, hq, rfl, rfl, hJ⟩ := hrel
          by_cases hql : q < N + 1
          · have hqI : (q : Int) < (N : Int) + 1 := by omega
            obtain ⟨x, hx⟩ : ∃ x, (one :: L1)[q]? = some x := ⟨_, List.getElem?_eq_getElem (by have := hNH.out; simp; omega)⟩
            obtain ⟨hx1, hx2⟩ := hF.out.at hx
            have cx : Hid (∀ i, i < 6 → ∀ z, (prC x)[i]? = some z → V6.cell? ⟨g, q * 6 + i, none⟩ = some z) := fun i hi z hz => (Mv.below (E := fun _ => False) hJ.out).cell (fun h => h) (hcs.out q x hx i hi z hz)
            clear hx
            obtain ⟨x0, x1, x2, x3, x4, x5, x6, x7⟩ := x
            have c0 := cx.out 0 (by omega) _ rfl
            have c1 := cx.out 1 (by omega) _ rfl
            have c2 := cx.out 2 (by omega) _ rfl
            have c3 := cx.out 3 (by omega) _ rfl
            have c4 := cx.out 4 (by omega) _ rfl
            have c5 := cx.out 5 (by omega) _ rfl
            simp only [Nat.add_zero] at c0
            simp only at c0 c1 c2 c3 c4 c5 hx1 hx2
            obtain ⟨W8, hW8⟩ : ∃ W8, V6.alloc (.cells #[.int .i64 x0, .int .i64 x1, .string x2, .bool x3, .int .i64 x4, .string x5] 40) = W8 := ⟨_, rfl⟩
            have hb8 : Hid (Below W5.heap.size W5 W8) := by show Below _ _ _; rw [← hW8]; exact hJ.out.alloc hJ.out.size _
            have e0 : W8.cell? ⟨V6.heap.size, 0, none⟩ = some (.int .i64 x0) := by rw [← hW8]; exact cell_at rfl rfl
            by_cases hq2 : q < 2
            · have hle : x0 ≤ 2 := hx1 hq2
              have hqq : ((q - 2 : Nat) : Int) = ((q + 1 - 2 : Nat) : Int) := by omega
              clear hx1 hx2 cx hJ
              go_wp2_with (rw [hW8])
              exact ⟨⟨q + 1, by omega, by go_num, by rw [hqq], hb8⟩, by simp [intOf]; omega⟩
            · obtain ⟨hgt, hgrp, hcmd, hp1, hp2⟩ := hx2 (by omega)
              have hgt' : ¬ x0 ≤ 2 := by omega
              have hqq : ((q - 2 : Nat) : Int) + 1 = ((q + 1 - 2 : Nat) : Int) := by omega
              obtain ⟨n8, hn8⟩ : ∃ n8, q + 1 - 2 = n8 := ⟨_, rfl⟩
              rw [hn8] at hqq
              have hn8H := hidP hn8
              have hn8b : n8 ≤ 100 := by omega
              subst hgrp
              subst hcmd
              have hpp := hidP (And.intro hp1 hp2)
              have hbx : Hid (W8.cell? ⟨V6.heap.size, 1, none⟩ = some (.int .i64 x1) ∧ W8.cell? ⟨V6.heap.size, 2, none⟩ = some (.string gB) ∧ W8.cell? ⟨V6.heap.size, 5, none⟩ = some (.string cB)) := by
                show _ ∧ _ ∧ _
                rw [← hW8]; exact ⟨cell_at rfl rfl, cell_at rfl rfl, cell_at rfl rfl⟩
              have e0H := hidP e0
              clear hx1 hx2 cx hJ hp1 hp2 hn8
              simp only [gB, cB] at c2 c5 hW8
              go_wp2_with (rw [hW8])
              clear c0 c1 c2 c3 c4 c5 hW8 e0
              obtain ⟨X, hX⟩ : ∃ X, V6.heap.size = X := ⟨_, rfl⟩
              rw [hX] at hbx e0H
              rw [hX]
              clear hX
              go_loopw [21, 22] (fun mv kv wr2 => ∃ i : Nat, i ≤ m ∧ kv = .int .i64 i ∧ mv = .bool ((K.take i).any fun z => decide (z = x0)) ∧ Hid (Below W8.heap.size W8 wr2)) (fun _ kv _ => m - (intOf kv).toNat)
              case atStart => exact ⟨0, by omega, rfl, rfl, Below.refl _ _⟩
              case round =>
                obtain ⟨i, hi, rfl, rfl, hJ2⟩ := hrel
                by_cases hil : i < m
                · have hiI : (i : Int) < (m : Int) := by omega
                  obtain ⟨z, hz⟩ : ∃ z, K[i]? = some z := ⟨_, List.getElem?_eq_getElem (by have := hmKH.out; omega)⟩
                  obtain ⟨gk, rfl, hgk⟩ := hKc5.out (by omega)
                  have ck := (Mv.below (E := fun _ => False) hJ2.out).cell (fun h => h) ((Mv.below (E := fun _ => False) hb8.out).cell (fun h => h) (hgk i z hz))
                  have cb := (Mv.below (E := fun _ => False) hJ2.out).cell (fun h => h) e0H.out
                  have hst : (K.take (i + 1)).any (fun z => decide (z = x0)) = ((K.take i).any (fun z => decide (z = x0)) || decide (z = x0)) := by
                    rw [List.take_add_one, hz, List.any_append]
                    simp
                  obtain ⟨mb, hmb⟩ : ∃ mb, (K.take i).any (fun z => decide (z = x0)) = mb := ⟨_, rfl⟩
                  rw [hmb] at hst
                  rw [hmb]
                  clear hmb hz hgk
                  cases mb with
                  | true =>
                    rw [Bool.true_or] at hst
                    have hstH := hidP hst
                    clear hst
                    go_wp2_with fail
                    go_quiet (fail)
                    go_wp2_with fail
                    exact ⟨⟨i + 1, by omega, by go_num, by rw [hstH.out], below_drewN hJ2.out _⟩, by simp [intOf]; omega⟩
                  | false =>
                    rw [Bool.false_or] at hst
                    have hstH := hidP hst
                    clear hst
                    go_wp2_with fail
                    go_quiet (fail)
                    go_wp2_with fail
                    exact ⟨⟨i + 1, by omega, by go_num, by rw [hstH.out]; rfl, below_drewN hJ2.out _⟩, by simp [intOf]; omega⟩
                · have hgeI : ¬ (i : Int) < (m : Int) := by omega
                  have hany : Hid ((K.take i).any (fun z => decide (z = x0)) = decide (x0 ∈ K)) := by
                    show _ = _
                    rw [List.take_of_length_le (by have := hmKH.out; omega), Bool.eq_iff_iff, List.any_eq_true, decide_eq_true_eq]
                    constructor
                    · rintro ⟨z, hz, e⟩
                      have : z = x0 := by simpa using e
                      rw [← this]; exact hz
                    · exact fun h => ⟨x0, h, by simp⟩
                  rw [hany.out]
                  have d1 := (Mv.below (E := fun _ => False) hJ2.out).cell (fun h => h) hbx.out.1
                  have d2 := (Mv.below (E := fun _ => False) hJ2.out).cell (fun h => h) hbx.out.2.1
                  have d5 := (Mv.below (E := fun _ => False) hJ2.out).cell (fun h => h) hbx.out.2.2
                  simp only [gB, cB] at d2 d5
                  have fin : Hid (Below W5.heap.size W5 wr) := hb8.out.trans (hJ2.out.mono hb8.out.size)
                  have hnq := hn8H.out
                  by_cases hin : x0 ∈ K
                  · rw [decide_eq_true hin]
                    have hpar := hpp.out.1 hin
                    subst hpar
                    clear hany hJ2 hpp
                    go_wp2_with fail
                    exact ⟨⟨q + 1, by omega, by go_num, by rw [hnq], fin⟩, by simp [intOf]; omega⟩
                  · rw [decide_eq_false hin]
                    have hpar := hpp.out.2 hin
                    have hpa : (x1 == 1) = false := by simpa using hpar.1
                    have hpb : (x1 == 2) = false := by simpa using hpar.2
                    clear hany hJ2 hpp hpar
                    go_wp2_with fail
                    exact ⟨⟨q + 1, by omega, by go_num, by rw [hnq], fin⟩, by simp [intOf]; omega⟩
          · have hqe : ¬ (q : Int) < (N : Int) + 1 := by omega
            have hfe : ((q - 2 : Nat) : Int) = (a : Int) + (ab : Int) := by have := hNab.out; omega
            have fin : Hid (Below w.heap.size w V6) := hbe.out.trans (hJ.out.mono hbe.out.size)
            clear hJ
            go_wp2_with fail
            go_ret
            exact ⟨rfl, fin.out⟩
      | false =>
        obtain ⟨W1, hW1⟩ : ∃ W1, W1 = wr := ⟨_, rfl⟩
        subst hW1
        obtain ⟨L1, hL1⟩ : ∃ L1, L1 = L := ⟨_, rfl⟩
        subst hL1
        have R1 : Hid (Tn w bt bm 60 last L1 W1 ∧ Wf 60 last L1 ∧ Fin2 2 K L1 ∧ L1.length = 1 + a + a * b ∧ Kr w bt bm u12 K W1 ∧ K.length = a ∧ last ≤ 100) :=
          ⟨hI'.out.1, hI'.out.2.1, hI'.out.2.2.1.fin hI'.out.2.1, hI'.out.2.2.2.1, hI'.out.2.2.2.2.2.1, hI'.out.2.2.2.2.2.2, by have h1 := hI'.out.2.2.2.2.1; have := hI'.out.2.1.len'; omega⟩
        clear hI'
        obtain ⟨p, m, c, hv⟩ : ∃ p m c, u12 = .slice p m c := by
          rcases R1.out.2.2.2.2.1.n.2 with ⟨e, _⟩ | ⟨g, cp, cur, e, _⟩
          · exact ⟨_, _, _, e⟩
          · exact ⟨_, _, _, e⟩
        have hmKH : Hid (m = K.length) := by
          show _ = _
          rcases R1.out.2.2.2.2.1.n.2 with ⟨e, e0⟩ | ⟨g, cp, cur, e, _⟩
          · rw [hv] at e; injection e with _ e2 _; omega
          · rw [hv] at e; injection e with _ e2 _
        have hm6 : m ≤ 6 := by have h1 := hmKH.out; have := R1.out.2.2.2.2.2.1; omega
        subst hv
        have hKc : Hid (0 < m → ∃ gk, p = some ⟨gk, 0, none⟩ ∧ gk < W1.heap.size ∧ ∀ (i : Nat) (z : Int), K[i]? = some z → W1.cell? ⟨gk, i, none⟩ = some (.int .i64 z)) := by
          intro hm0
          rcases R1.out.2.2.2.2.1.n.2 with ⟨e, e0⟩ | ⟨g, cp, cur, e, _, hg, _⟩
          · have := hmKH.out; omega
          · injection e with e1 e2 e3
            refine ⟨g, e1, lt_of_heap hg, fun i z hz => ?_⟩
            have := R1.out.2.2.2.2.1.n.cells (g := g) (by rw [e1, e2]; rfl) i (.int .i64 z) (by rw [List.getElem?_map, hz]; rfl)
            rw [Addr.add_lit, Nat.zero_add] at this
            exact this
        have hA := hidP (all_0 bt bm 60 last L1 W1 R1.out.1.tb R1.out.2.1.srt (by have := R1.out.2.1.len'; omega) (fun p hp => by have := R1.out.2.1.rng p hp; have := R1.out.2.2.2.2.2.2; omega))
        go_wp2_with fail
        refine hA.out.mono ?_
        rintro e W5 ⟨v, rfl, hrow, hb5⟩
        clear hA
        obtain ⟨N, hN⟩ : ∃ N, L1.length = N := ⟨_, rfl⟩
        rw [hN] at hrow
        obtain ⟨g, cp, rfl⟩ := ownsRow_succ hrow
        have hcs : Hid (∀ (k : Nat) (x : Pr), (one :: L1)[k]? = some x → ∀ q, q < 6 → ∀ z, (prC x)[q]? = some z → W5.cell? ⟨g, k * 6 + q, none⟩ = some z) := fun k x hx q hq z hz => by
          have h1 := prs_at hx q hq
          have h2 := hrow.cells (g := g) rfl (k * 6 + q) z (by rw [h1]; exact hz)
          rw [Addr.add_lit, Nat.zero_add] at h2
          exact h2
        have hKc5 : Hid (0 < m → ∃ gk, p = some ⟨gk, 0, none⟩ ∧ ∀ (i : Nat) (z : Int), K[i]? = some z → W5.cell? ⟨gk, i, none⟩ = some (.int .i64 z)) := fun hm0 => by
          obtain ⟨gk, e1, e2, e3⟩ := hKc.out hm0
          exact ⟨gk, e1, fun i z hz => (Mv.below (E := fun _ => False) hb5).cell (fun h => h) (e3 i z hz)⟩
        have hN64 : N ≤ 64 := by rw [← hN]; exact R1.out.2.1.len'
        have hNH := hidP hN
        have hbe : Hid (Below w.heap.size w W5) := R1.out.1.be.trans (hb5.mono R1.out.1.be.size)
        have hF := hidP R1.out.2.2.1
        have hNab : Hid (N = 1 + a + a * b) := by show _ = _; rw [← hN]; exact R1.out.2.2.2.1
        obtain ⟨ab, hab⟩ : ∃ ab, a * b = ab := ⟨_, rfl⟩
        have habI : (a : Int) * (b : Int) = (ab : Int) := by rw [← hab]; simp
        have hab25 : ab ≤ 25 := by rw [← hab]; exact Nat.le_trans (Nat.mul_le_mul (by omega : a ≤ 5) (by omega : b ≤ 5)) (by omega)
        rw [hab] at hNab
        clear hrow hb5 hKc hN R1 hab
        go_wp2_with fail
        go_loopw [17, 19] (fun nv iv wr => ∃ q : Nat, q ≤ N + 1 ∧ iv = .int .i64 q ∧ nv = .int .i64 ((q - 2 : Nat) : Int) ∧ Hid (Below W5.heap.size W5 wr)) (fun _ iv _ => N + 1 - (intOf iv).toNat)
        case atStart => exact ⟨0, by omega, rfl, rfl, Below.refl _ _⟩
        case round =>
          obtain ⟨V6, hV6⟩ : ∃ V6, V6 = wr := ⟨_, rfl⟩
          subst hV6
          obtain ⟨q, hq, rfl, rfl, hJ⟩ := hrel
          by_cases hql : q < N + 1
          · have hqI : (q : Int) < (N : Int) + 1 := by omega
            obtain ⟨x, hx⟩ : ∃ x, (one :: L1)[q]? = some x := ⟨_, List.getElem?_eq_getElem (by have := hNH.out; simp; omega)⟩
            obtain ⟨hx1, hx2⟩ := hF.out.at hx
            have cx : Hid (∀ i, i < 6 → ∀ z, (prC x)[i]? = some z → V6.cell? ⟨g, q * 6 + i, none⟩ = some z) := fun i hi z hz => (Mv.below (E := fun _ => False) hJ.out).cell (fun h => h) (hcs.out q x hx i hi z hz)
            clear hx
            obtain ⟨x0, x1, x2, x3, x4, x5, x6, x7⟩ := x
            have c0 := cx.out 0 (by omega) _ rfl
            have c1 := cx.out 1 (by omega) _ rfl
            have c2 := cx.out 2 (by omega) _ rfl
            have c3 := cx.out 3 (by omega) _ rfl
            have c4 := cx.out 4 (by omega) _ rfl
            have c5 := cx.out 5 (by omega) _ rfl
            simp only [Nat.add_zero] at c0
            simp only at c0 c1 c2 c3 c4 c5 hx1 hx2
            obtain ⟨W8, hW8⟩ : ∃ W8, V6.alloc (.cells #[.int .i64 x0, .int .i64 x1, .string x2, .bool x3, .int .i64 x4, .string x5] 40) = W8 := ⟨_, rfl⟩
            have hb8 : Hid (Below W5.heap.size W5 W8) := by show Below _ _ _; rw [← hW8]; exact hJ.out.alloc hJ.out.size _
            have e0 : W8.cell? ⟨V6.heap.size, 0, none⟩ = some (.int .i64 x0) := by rw [← hW8]; exact cell_at rfl rfl
            by_cases hq2 : q < 2
            · have hle : x0 ≤ 2 := hx1 hq2
              have hqq : ((q - 2 : Nat) : Int) = ((q + 1 - 2 : Nat) : Int) := by omega
              clear hx1 hx2 cx hJ
              go_wp2_with (rw [hW8])
              exact ⟨⟨q + 1, by omega, by go_num, by rw [hqq], hb8⟩, by simp [intOf]; omega⟩
            · obtain ⟨hgt, hgrp, hcmd, hp1, hp2⟩ := hx2 (by omega)
              have hgt' : ¬ x0 ≤ 2 := by omega
              have hqq : ((q - 2 : Nat) : Int) + 1 = ((q + 1 - 2 : Nat) : Int) := by omega
              obtain ⟨n8, hn8⟩ : ∃ n8, q + 1 - 2 = n8 := ⟨_, rfl⟩
              rw [hn8] at hqq
              have hn8H := hidP hn8
              have hn8b : n8 ≤ 100 := by omega
              subst hgrp
              subst hcmd
              have hpp := hidP (And.intro hp1 hp2)
              have hbx : Hid (W8.cell? ⟨V6.heap.size, 1, none⟩ = some (.int .i64 x1) ∧ W8.cell? ⟨V6.heap.size, 2, none⟩ = some (.string gB) ∧ W8.cell? ⟨V6.heap.size, 5, none⟩ = some (.string cB)) := by
                show _ ∧ _ ∧ _
                rw [← hW8]; exact ⟨cell_at rfl rfl, cell_at rfl rfl, cell_at rfl rfl⟩
              have e0H := hidP e0
              clear hx1 hx2 cx hJ hp1 hp2 hn8
              simp only [gB, cB] at c2 c5 hW8
              go_wp2_with (rw [hW8])
              clear c0 c1 c2 c3 c4 c5 hW8 e0
              obtain ⟨X, hX⟩ : ∃ X, V6.heap.size = X := ⟨_, rfl⟩
              rw [hX] at hbx e0H
              rw [hX]
              clear hX
              go_loopw [21, 22] (fun mv kv wr2 => ∃ i : Nat, i ≤ m ∧ kv = .int .i64 i ∧ mv = .bool ((K.take i).any fun z => decide (z = x0)) ∧ Hid (Below W8.heap.size W8 wr2)) (fun _ kv _ => m - (intOf kv).toNat)
              case atStart => exact ⟨0, by omega, rfl, rfl, Below.refl _ _⟩
              case round =>
                obtain ⟨i, hi, rfl, rfl, hJ2⟩ := hrel
                by_cases hil : i < m
                · have hiI : (i : Int) < (m : Int) := by omega
                  obtain ⟨z, hz⟩ : ∃ z, K[i]? = some z := ⟨_, List.getElem?_eq_getElem (by have := hmKH.out; omega)⟩
                  obtain ⟨gk, rfl, hgk⟩ := hKc5.out (by omega)
                  have ck := (Mv.below (E := fun _ => False) hJ2.out).cell (fun h => h) ((Mv.below (E := fun _ => False) hb8.out).cell (fun h => h) (hgk i z hz))
                  have cb := (Mv.below (E := fun _ => False) hJ2.out).cell (fun h => h) e0H.out
                  have hst : (K.take (i + 1)).any (fun z => decide (z = x0)) = ((K.take i).any (fun z => decide (z = x0)) || decide (z = x0)) := by
                    rw [List.take_add_one, hz, List.any_append]
                    simp
                  obtain ⟨mb, hmb⟩ : ∃ mb, (K.take i).any (fun z => decide (z = x0)) = mb := ⟨_, rfl⟩
                  rw [hmb] at hst
                  rw [hmb]
                  clear hmb hz hgk
                  cases mb with
                  | true =>
                    rw [Bool.true_or] at hst
                    have hstH := hidP hst
                    clear hst
                    go_wp2_with fail
                    go_quiet (fail)
                    go_wp2_with fail
                    exact ⟨⟨i + 1, by omega, by go_num, by rw [hstH.out], below_drewN hJ2.out _⟩, by simp [intOf]; omega⟩
                  | false =>
                    rw [Bool.false_or] at hst
                    have hstH := hidP hst
                    clear hst
                    go_wp2_with fail
                    go_quiet (fail)
                    go_wp2_with fail
                    exact ⟨⟨i + 1, by omega, by go_num, by rw [hstH.out]; rfl, below_drewN hJ2.out _⟩, by simp [intOf]; omega⟩
                · have hgeI : ¬ (i : Int) < (m : Int) := by omega
                  have hany : Hid ((K.take i).any (fun z => decide (z = x0)) = decide (x0 ∈ K)) := by
                    show _ = _
                    rw [List.take_of_length_le (by have := hmKH.out; omega), Bool.eq_iff_iff, List.any_eq_true, decide_eq_true_eq]
                    constructor
                    · rintro ⟨z, hz, e⟩
                      have : z = x0 := by simpa using e
                      rw [← this]; exact hz
                    · exact fun h => ⟨x0, h, by simp⟩
                  rw [hany.out]
                  have d1 := (Mv.below (E := fun _ => False) hJ2.out).cell (fun h => h) hbx.out.1
                  have d2 := (Mv.below (E := fun _ => False) hJ2.out).cell (fun h => h) hbx.out.2.1
                  have d5 := (Mv.below (E := fun _ => False) hJ2.out).cell (fun h => h) hbx.out.2.2
                  simp only [gB, cB] at d2 d5
                  have fin : Hid (Below W5.heap.size W5 wr) := hb8.out.trans (hJ2.out.mono hb8.out.size)
                  have hnq := hn8H.out
                  by_cases hin : x0 ∈ K
                  · rw [decide_eq_true hin]
                    have hpar := hpp.out.1 hin
                    subst hpar
                    clear hany hJ2 hpp
                    go_wp2_with fail
                    exact ⟨⟨q + 1, by omega, by go_num, by rw [hnq], fin⟩, by simp [intOf]; omega⟩
                  · rw [decide_eq_false hin]
                    have hpar := hpp.out.2 hin
                    have hpa : (x1 == 1) = false := by simpa using hpar.1
                    have hpb : (x1 == 2) = false := by simpa using hpar.2
                    clear hany hJ2 hpp hpar
                    go_wp2_with fail
                    exact ⟨⟨q + 1, by omega, by go_num, by rw [hnq], fin⟩, by simp [intOf]; omega⟩
          · have hqe : ¬ (q : Int) < (N : Int) + 1 := by omega
            have hfe : ((q - 2 : Nat) : Int) = (a : Int) + (ab : Int) := by have := hNab.out; omega
            have fin : Hid (Below w.heap.size w V6) := hbe.out.trans (hJ.out.mono hbe.out.size)
            clear hJ
            go_wp2_with fail
            go_ret
            exact ⟨rfl, fin.out⟩
end Go.Proofs.Ytkefnmjoehnakaa
