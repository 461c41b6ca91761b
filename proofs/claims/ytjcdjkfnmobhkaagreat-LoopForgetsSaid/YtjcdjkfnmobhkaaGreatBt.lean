import Derived.Test.YtjcdjkfnmobhkaaGreatQwNB
import Derived.Test.YtjcdjkfnmobhkaaGreatLKB
/- Drop, and what it leaves of an empty queue. -/
namespace Go.Proofs.YtjcdjkfnmobhkaaGreat.Qw
open Go.RowKit Go.Shelf Go.Lib
attribute [local go_sem] Oper.semAt_some
set_option maxRecDepth 100000 in
set_option maxHeartbeats 4000000 in
theorem drop_all {nb : NB} {key : El → Int} {w : World} {q : Nat} {E B : Nat → Prop} {L : List El} {n : Nat} (hB : L ≠ [] → Bf nb key) (h : Qu nb key w q E B L n) {mf br : Nat} {rv : Value} {p : El → Bool} (cr : w.cell? ⟨br, 0, none⟩ = some rv) (eg : ∀ args w, (callFunc mf args).run Tryz.prog w = .ok (.enter mf args) w) (hM : ∀ x W, W.cell? ⟨br, 0, none⟩ = some rv → Calls Tryz.prog mf #[ev x, .pointer (some ⟨br, 0, none⟩)] W fun e V => e = .returned (.bool (p x)) ∧ Below W.heap.size W V) :
    Calls Tryz.prog 39 #[qp q, .func (.func mf) #[] #[.pointer (some ⟨br, 0, none⟩)]] w fun e V => e = .returned (.int .i64 ((L.length : Int) - (L.filter fun x => !p x).length)) ∧ Qg nb key w q E B (L.filter fun x => !p x) n V ∧ (L = [] → Below w.heap.size w V) := by
  have hq0 := hidP h
  obtain ⟨v, xs, F, L', a1, a2, a3, a4, a5, a6⟩ := h
  obtain ⟨out, ho, hpm⟩ := Ot.of _ _ _ a1.rf (Nat.le_refl _)
  obtain ⟨bm, hbm⟩ : ∃ bm, w.heap.size = bm := ⟨_, rfl⟩
  obtain ⟨W1, hW1⟩ : ∃ W1, w.alloc (.cells #[.func (.func mf) #[] #[.pointer (some ⟨br, 0, none⟩)]] 89) = W1 := ⟨_, rfl⟩
  have b1 : Below w.heap.size w W1 := by rw [← hW1]; exact (Below.refl _ _).alloc (Nat.le_refl _) _
  have h1s : W1.heap.size = bm + 1 := by rw [← hW1]; simp [hbm]
  obtain ⟨W2, hW2⟩ : ∃ W2, W1.alloc (.cells #[.slice none 0 0] 68) = W2 := ⟨_, rfl⟩
  have b2 : Below W1.heap.size W1 W2 := by rw [← hW2]; exact (Below.refl _ _).alloc (Nat.le_refl _) _
  have h2s : W2.heap.size = bm + 2 := by rw [← hW2]; simp [h1s]
  obtain ⟨W3, hW3⟩ : ∃ W3, W2.alloc (.cells #[qp q] 74) = W3 := ⟨_, rfl⟩
  have b3 : Below W2.heap.size W2 W3 := by rw [← hW3]; exact (Below.refl _ _).alloc (Nat.le_refl _) _
  have h3s : W3.heap.size = bm + 3 := by rw [← hW3]; simp [h2s]
  have b03 : Below w.heap.size w W3 := (b1.trans (b2.mono b1.size)).trans (b3.mono (Nat.le_trans b1.size b2.size))
  have Q3 := a1.below b03
  have c3 : W3.cell? ⟨bm + 2, 0, none⟩ = some (qp q) := by rw [← hW3]; exact cell_at h2s rfl
  have clk : Cl (bm + 1) (.slice none 0 0) W3 := Cl.mv (E := fun _ => False) ⟨by rw [← hW2]; exact cell_at h1s rfl, by rw [← hW2]; exact froz_new h1s⟩ (Mv.below b3) (fun h => h)
  have cm : W3.cell? ⟨bm, 0, none⟩ = some (.func (.func mf) #[] #[.pointer (some ⟨br, 0, none⟩)]) := bcell b3 (by omega) (bcell b2 (by omega) (by rw [← hW1]; exact cell_at hbm rfl))
  have lbr : br < bm := by rw [← hbm]; exact cell_lt cr
  have cr3 : W3.cell? ⟨br, 0, none⟩ = some rv := bcell b03 (by omega) cr
  have hol : out.length = L.length := by
    have := hpm.length_eq
    rw [List.length_map] at this
    rw [this, a2.pm.length_eq, ← a3, List.length_map]
  have ho3 := Ot.mv (F := fun _ => False) (Mv.below b03) (fun _ _ h => h) _ _ ho
  have lq : q < bm := by rw [← hbm]; exact a1.lt
  have hlv : ∀ k, nbk v = some k → k < bm := fun k hk => by rw [← hbm]; exact a1.sv.lt hk
  have row := hidP (trees_row q (bm + 2) v xs out B (fun k => k = bm + 1) W3 c3 Q3.c1 Q3.sv ho3 (by omega) (by omega) (fun k hk e => by have := hlv k hk; omega) (fun k hk e => by have := a1.lo k hk; omega) (fun k hk => by have := a1.lo k hk; omega) (by omega))
  have tI : Ter W3.heap.size (KI p out (bm + 1) bm br (.func (.func mf) #[] #[.pointer (some ⟨br, 0, none⟩)]) rv w) := KI.ter (by omega) (by omega)
  have hI : Hid (KI p out (bm + 1) bm br (.func (.func mf) #[] #[.pointer (some ⟨br, 0, none⟩)]) rv w out (fun k => k = bm + 1) W3) := ⟨.slice none 0 0, [], [], rfl, rfl, (fun _ h => by cases h), (fun k => ⟨.inl, fun h => h.elim id (fun e => by cases e)⟩), clk, .inl ⟨rfl, rfl⟩, (fun e => by cases e), (fun k e => by cases e), cm, cr3⟩
  have hTf : Hid (Calls Tryz.prog 58 #[qp q] W2 fun e V => e = .returned (.func (.func 75) #[] #[.pointer (some ⟨bm + 2, 0, none⟩)]) ∧ V = W3) := by
    have := treesf_any q W2
    rw [hW3, h2s] at this
    exact this
  have hMH := hidP hM
  unfold qp at *
  refine (callsIn_wide (n := 5)).1 ?_
  refine callsIn_of_wp_marks Tryz.func39 rfl trivial ?_ rfl
  simp only [Tryz.ntmps39, List.size_toArray, List.length_cons, List.length_nil, Nat.reduceAdd, Nat.reduceSub, Array.replicate_succ, Array.replicate_zero, List.push_toArray, List.append_toArray, List.nil_append, List.cons_append]
  gi_wp2_with (first | rw [hW1] | rw [hW2])
  refine ⟨trivial, (callsIn_wide.2 hTf.out).mono ?_⟩
  rintro e V ⟨rfl, rfl⟩
  gi_wp2_with fail
  refine loop_out (gf := 75) (lb := #[.pointer (some ⟨bm + 2, 0, none⟩)]) rfl (enters_of Tryz.func75 (by kernel_rfl) rfl) row.out (fun _ => rfl) (KI p out (bm + 1) bm br (.func (.func mf) #[] #[.pointer (some ⟨br, 0, none⟩)]) rv w) AX tI (AX.ter _) hI.out ?round ?done ?stop
  case round =>
    rintro l9 hl9 x rest E2 U hi hm hg hEl hrec
    have hltH : Hid (l9 < U.heap.size) := by obtain ⟨r, hr⟩ := hrec; exact (Array.getElem?_eq_some_iff.1 hr).1
    clear hrec
    simp only [encR, Rec.val]
    gi_wp2_with fail
    refine ⟨⟨Mv.alloc _ _ _, Below.heap_alloc _ _ _ hltH.out⟩, fun U2 tw => ?_⟩
    obtain ⟨hi2, hm2⟩ := tw.go tI hi (Mv.alloc _ _ _) hm (Nat.le_refl _) hl9 hEl
    have bx : ∀ j u, #[vc0 x.v, vc1 x.v, vc2 x.v, vc3 x.v, vc4 x.v, vc5 x.v, Value.int .i64 x.t, ptrV x.p][j]? = some u → U2.cell? ⟨U.heap.size, j, none⟩ = some u := fun j u hj => tw.mv.cell (a := ⟨U.heap.size, j, none⟩) (by have := hltH.out; show ¬ U.heap.size = l9; omega) (cell_at rfl hj)
    have hU2 : Hid (U2.heap.size = U.heap.size + 1) := by show _ = _; have := tw.size; simpa using this
    obtain ⟨kv, kept, done, e1, e2, e3, e4, e5, e6, e7, e8, e9, e10⟩ := hi2
    have x0 : (U2.cell? ⟨U.heap.size, 0, none⟩ = some (vc0 x.v) ∧ U2.cell? ⟨U.heap.size, 1, none⟩ = some (vc1 x.v) ∧ U2.cell? ⟨U.heap.size, 2, none⟩ = some (vc2 x.v) ∧ U2.cell? ⟨U.heap.size, 3, none⟩ = some (vc3 x.v) ∧ U2.cell? ⟨U.heap.size, 4, none⟩ = some (vc4 x.v) ∧ U2.cell? ⟨U.heap.size, 5, none⟩ = some (vc5 x.v)) := ⟨bx 0 _ rfl, bx 1 _ rfl, bx 2 _ rfl, bx 3 _ rfl, bx 4 _ rfl, bx 5 _ rfl⟩
    have hmt := hidP (hMH.out x.v U2 e10)
    gi_wp2_with fail
    refine ⟨trivial, (CallsIn.inRound l9 (callsIn_wide.2 hmt.out)).mono ?_⟩
    rintro e U3 ⟨rfl, hb3⟩
    have m3 : ∀ F, Mv F U2 U3 := fun F => Mv.below hb3
    have lU : U.heap.size < U2.heap.size := by have := hU2.out; omega
    have y0 : (U3.cell? ⟨U.heap.size, 0, none⟩ = some (vc0 x.v) ∧ U3.cell? ⟨U.heap.size, 1, none⟩ = some (vc1 x.v) ∧ U3.cell? ⟨U.heap.size, 2, none⟩ = some (vc2 x.v) ∧ U3.cell? ⟨U.heap.size, 3, none⟩ = some (vc3 x.v) ∧ U3.cell? ⟨U.heap.size, 4, none⟩ = some (vc4 x.v) ∧ U3.cell? ⟨U.heap.size, 5, none⟩ = some (vc5 x.v)) := ⟨bcell hb3 lU (bx 0 _ rfl), bcell hb3 lU (bx 1 _ rfl), bcell hb3 lU (bx 2 _ rfl), bcell hb3 lU (bx 3 _ rfl), bcell hb3 lU (bx 4 _ rfl), bcell hb3 lU (bx 5 _ rfl)⟩
    have y1 := bcell hb3 lU (bx 6 _ rfl)
    have f5 := e5.mv (m3 fun _ => False) (fun h => h)
    have f6 := e6.mv (m3 fun _ => False) (fun _ _ h => h)
    have f9 := (m3 fun _ => False).cell (a := ⟨bm, 0, none⟩) (fun h => h) e9
    have f10 := (m3 fun _ => False).cell (a := ⟨br, 0, none⟩) (fun h => h) e10
    have hsz : w.heap.size ≤ U3.heap.size := by have := hb3.size; have := f5.lt; omega
    cases hp : p x.v with
    | true =>
      have fin : Hid (Mv E2 U2 U3 ∧ ∃ E', Gr E2 U2 E' ∧ KI p out (bm + 1) bm br (.func (.func mf) #[] #[.pointer (some ⟨br, 0, none⟩)]) rv w rest E' U3) := by
        refine ⟨m3 _, E2, Gr.refl _ _, kv, kept, done ++ [x], by rw [List.append_assoc]; exact e1, ?_, e3, e4, f5, f6, e7, e8, f9, f10⟩
        rw [e2, List.map_append, List.filter_append]
        simp [hp]
      clear e1 e2 e3 e4 e5 e6 e7 e8 e9 e10 f5 f6 f9 f10 y0 y1 x0 bx m3 hm2 hi hm tw hmt
      gi_wp2_with fail
      exact fin.out
    | false =>
      obtain ⟨A, hA⟩ : ∃ A, U3.alloc (.cells #[vc0 x.v, vc1 x.v, vc2 x.v, vc3 x.v, vc4 x.v, vc5 x.v, .int .i64 x.t, .pointer none] 104) = A := ⟨_, rfl⟩
      have mA : ∀ F, Mv F U3 A := fun F => by rw [← hA]; exact Mv.alloc _ _ _
      have svA := f6.mv (mA fun _ => False) (fun _ _ h => h)
      have raA : RA A U3.heap.size 0 [⟨x.v, x.t, none⟩] := by
        intro j u hj
        rw [Nat.zero_add, ← hA]
        refine cell_at rfl ?_
        match j, hj with
        | 0, hj => exact hj
        | 1, hj => exact hj
        | 2, hj => exact hj
        | 3, hj => exact hj
        | 4, hj => exact hj
        | 5, hj => exact hj
        | 6, hj => exact hj
        | 7, hj => exact hj
        | j + 8, hj => simp [flat] at hj
      have hkl : kept.length ≤ 200000 := by
        have z := congrArg List.length e2
        rw [List.length_map] at z
        have z2 := List.length_filter_le (fun y : El × Int => !p y.1) (done.map fun x => (x.v, x.t))
        rw [List.length_map] at z2
        have z3 := congrArg List.length e1
        rw [List.length_append] at z3
        omega
      obtain ⟨v', A2, hrun, sv', m2, at2⟩ := svA.append raA (by omega) 1
      obtain ⟨A3, hA3⟩ : ∃ A3, A2.setCell ⟨bm + 1, 0, none⟩ v' = A3 := ⟨_, rfl⟩
      have n2 : ¬ nbk kv = some (bm + 1) := e7
      have cA2 := (f5.mv (mA fun _ => False) (fun h => h)).mv m2 n2
      have clA3 : Cl (bm + 1) v' A3 := by rw [← hA3]; exact cA2.set v'
      have mS : Mv (fun k => k = bm + 1) A2 A3 := by rw [← hA3]; exact Mv.set1 (E := fun k => k = bm + 1) rfl _
      have szA : A.heap.size = U3.heap.size + 1 := by rw [← hA]; simp
      have hnU : bm + 1 < U2.heap.size := e5.lt
      have sz3 := hb3.size
      have n3 : nbk v' ≠ some (bm + 1) := fun e => by
        rcases at2 with q | ⟨k, q, hk⟩
        · exact e7 (q ▸ e)
        · rw [e] at q; injection q with q; omega
      have nb9 : ∀ k, k < w.heap.size ∨ k = bm → ¬ nbk kv = some k ∧ ¬ k = bm + 1 := fun k hk => ⟨fun e => by
        rcases hk with hk | hk
        · have := e8 k e; omega
        · have := e8 k e; omega, by omega⟩
      have fin : Hid (Mv E2 U2 A3 ∧ ∃ E', Gr E2 U2 E' ∧ KI p out (bm + 1) bm br (.func (.func mf) #[] #[.pointer (some ⟨br, 0, none⟩)]) rv w rest E' A3) := by
        refine ⟨(((m3 E2).trans' ((mA E2).trans' (m2.mono fun k _ hk => (e4 k).2 (.inr hk)))).trans' (mS.mono fun k _ hk => (e4 k).2 (.inl hk))), fun k => k = bm + 1 ∨ nbk v' = some k, fun k hk => ?_, v', kept ++ [⟨x.v, x.t, none⟩], done ++ [x], by rw [List.append_assoc]; exact e1, ?_, ?_, fun _ => Iff.rfl, clA3, sv'.mv mS (fun k hk e => n3 (e ▸ hk)), n3, fun k hk => ?_, ?_, ?_⟩
        · rcases hk with hk | hk
          · exact .inl ((e4 k).2 (.inl hk))
          · rcases at2 with q | ⟨k', q, hk'⟩
            · exact .inl ((e4 k).2 (.inr (by rw [← q]; exact hk)))
            · rw [hk] at q; injection q with q; exact .inr (by omega)
        · rw [List.map_append, e2, List.map_append, List.filter_append]
          simp [hp]
        · intro y hy
          rcases List.mem_append.1 hy with hy | hy
          · exact e3 y hy
          · rw [List.mem_singleton.1 hy]
        · rcases at2 with q | ⟨k', q, hk'⟩
          · exact e8 k (by rw [← q]; exact hk)
          · rw [hk] at q; injection q with q; omega
        · exact mS.cell (a := ⟨bm, 0, none⟩) (nb9 bm (.inr rfl)).2 (m2.cell (a := ⟨bm, 0, none⟩) (nb9 bm (.inr rfl)).1 ((mA fun _ => False).cell (a := ⟨bm, 0, none⟩) (fun h => h) f9))
        · exact mS.cell (a := ⟨br, 0, none⟩) (nb9 br (.inl (by omega))).2 (m2.cell (a := ⟨br, 0, none⟩) (nb9 br (.inl (by omega))).1 ((mA fun _ => False).cell (a := ⟨br, 0, none⟩) (fun h => h) f10))
      obtain ⟨pv, cvv, rfl⟩ := f6.shape
      obtain ⟨pv', cv', rfl⟩ := sv'.shape
      have ec := f5.c
      have ef := cA2.f
      have ec2 := cA2.c
      obtain ⟨nd, hnd⟩ : ∃ nd, kept.length = nd := ⟨_, rfl⟩
      obtain ⟨nd', hnd'⟩ : ∃ nd', (kept ++ [(⟨x.v, x.t, none⟩ : Rec)]).length = nd' := ⟨_, rfl⟩
      rw [hnd] at hrun ec ec2
      rw [hnd'] at hrun hA3
      clear sv' m2 at2 e1 e2 e3 e4 e5 e6 e7 e8 e9 e10 f5 f6 n2 clA3 mS n3 svA raA mA hm2 hi hm tw cA2 hnd hnd' hmt bx m3 f9 f10 hkl
      gi_wp2_with (first | rw [hA] | rw [hA3] | (gi_at_builtin; refine wpListIn_append_run rfl _ _ 68 rfl _ _ _ _ rfl rfl hrun ?_))
      exact fin.out
  case done =>
    rintro D E2 U hD hK hnD hm hg ⟨kv, kept, done, e1, e2, e3, e4, e5, e6, e7, e8, e9, e10⟩
    rw [List.append_nil] at e1
    subst e1
    have hk : (kept.map fun x => (x.v, x.t)).Perm (L'.filter fun y => !p y.1) := by rw [e2]; exact (hpm.trans a2.pm).filter _
    have hfl : (L'.filter fun y => !p y.1).map (·.1) = L.filter fun x => !p x := by rw [← a3, List.filter_map]; rfl
    have hkl : kept.length = (L.filter fun x => !p x).length := by
      have z := hk.length_eq
      rw [List.length_map] at z
      rw [z, ← hfl, List.length_map]
    obtain ⟨cn, hcn⟩ : ∃ cn, L.length = cn := ⟨_, rfl⟩
    obtain ⟨kn, hkn⟩ : ∃ kn, kept.length = kn := ⟨_, rfl⟩
    have hle : kn ≤ cn := by rw [← hkn, hkl, ← hcn]; exact List.length_filter_le _ _
    have QU := Q3.mv hm (show ¬ q = bm + 1 by omega) (fun k hk e => by have := hlv k hk; omega) (fun k hk e => by have := a1.lo k hk; omega)
    obtain ⟨pk, ck, hkv⟩ := e6.shape
    rw [hkn] at hkv
    have cq2 : U.drew.cell? ⟨q, 2, none⟩ = some (.int .i64 (cn : Int)) := by have := QU.c2; rw [hcn] at this; exact this
    have ckk : U.drew.cell? ⟨bm + 1, 0, none⟩ = some (.slice pk kn ck) := by rw [← hkv]; exact e5.c
    have hcI : (cn : Int) ≤ 200000 := by omega
    have hleI : (kn : Int) ≤ (cn : Int) := by omega
    have lD : D < U.heap.size := (Array.getElem?_eq_some_iff.1 hK).1
    have bU : Below w.heap.size w U := b03.trans (hm.toBelow b03.size (fun k hk e => by omega))
    by_cases hlt : kn < cn
    · have h0 : (0 : Int) < (cn : Int) - (kn : Int) := by omega
      obtain ⟨U3, hU3⟩ : ∃ U3, ((U.setCell ⟨q, 1, none⟩ (.slice none 0 0)).setCell ⟨q, 2, none⟩ (.int .i64 (kn : Int))).drew.drew = U3 := ⟨_, rfl⟩
      have s1 : (U.setCell ⟨q, 1, none⟩ (.slice none 0 0)).drew.drew.cell? ⟨q, 2, none⟩ = some (.int .i64 (cn : Int)) := (World.cell?_setCell_other U _ _ _ (by simp)).trans cq2
      have s3 : (U.setCell ⟨q, 1, none⟩ (.slice none 0 0)).drew.drew.cell? ⟨bm + 1, 0, none⟩ = some (.slice pk kn ck) := (World.cell?_setCell_other U _ _ _ (by simp)).trans ckk
      have s2 : (U.setCell ⟨q, 1, none⟩ (.slice none 0 0)).drew.drew.frozen? ⟨q, 2, none⟩ = false := ((Cv.one U q 1 (.slice none 0 0)).fr q 2 QU.lt).trans QU.f2
      have cq1 : U.drew.drew.cell? ⟨q, 1, none⟩ = some v := QU.c1
      have cq2' : U.drew.drew.cell? ⟨q, 2, none⟩ = some (.int .i64 (cn : Int)) := cq2
      have ckk' : U.drew.drew.cell? ⟨bm + 1, 0, none⟩ = some (.slice pk kn ck) := ckk
      have fq1 : U.drew.drew.frozen? ⟨q, 1, none⟩ = false := QU.f1
      have fq2 : U.drew.drew.frozen? ⟨q, 2, none⟩ = false := QU.f2
      have k3 : Cv (fun k j => k = q ∧ 1 ≤ j ∧ j < 1 + 2) U.drew.drew U3 := by
        have := Cv.cells U.drew.drew q 1 [.slice none 0 0, .int .i64 (kn : Int)]
        rw [← hU3]; exact this
      have mq : Mv (fun k => k = q) U U3 := ((Mv.drew _ _).trans' (Mv.drew _ _)).trans' (k3.mv.mono fun k _ s => by obtain ⟨j, s, _⟩ := s; exact s)
      have ck3 : U3.cell? ⟨bm + 1, 0, none⟩ = some (.slice pk kn ck) := k3.cell (k := bm + 1) (j := 0) (by omega) ckk'
      have d1 : U3.cell? ⟨q, 1, none⟩ = some (.slice none 0 0) := by rw [← hU3]; exact (World.cell?_setCell_other _ _ _ _ (by simp)).trans (World.cell?_setCell_same _ _ _ cq1)
      have d2 : U3.cell? ⟨q, 2, none⟩ = some (.int .i64 (kn : Int)) := by rw [← hU3]; exact World.cell?_setCell_same _ _ _ ((World.cell?_setCell_other _ _ _ _ (by simp)).trans cq2')
      have lqU : q < U.drew.drew.heap.size := QU.lt
      have nBq : ∀ k, B k → k < bm := fun k hk => by have := a1.lo k hk; omega
      have Qz : Qm nb U3 q B (.slice none 0 0) [] [] (kn : Int) n := ⟨k3.cell (k := q) (j := 0) (by omega) QU.c0, d1, d2, k3.cell (k := q) (j := 3) (by omega) QU.c3, (k3.fr q 1 lqU).trans QU.f1, (k3.fr q 2 lqU).trans QU.f2, (k3.fr q 3 lqU).trans QU.f3, .inl ⟨rfl, rfl⟩, trivial, (fun e => by cases e), (fun k hk => ⟨(QU.nB k hk).1, fun e => by cases e⟩), (fun k hk => by have := nBq k hk; have := mq.size; omega), by simp, (show Xt U.drew.drew q nb.X from QU.xt).cv k3 (fun j hj s => by have := s.2.2; omega) lqU⟩
      have nkq : nbk kv ≠ some q := fun e => by have := e8 q e; omega
      have sv3 := e6.mv mq (fun k hk e => nkq (e ▸ hk))
      have hfr := hidP (free_any (hB (fun e => by rw [e, List.length_nil] at hcn; omega)) Qz (m := 0) (T := nilT kept) Fl.nil (fun _ _ => .inr rfl) (fun x hx => by rw [nilT_k x hx]; trivial) sv3 (RF.nils kept e3) (by omega) nkq (fun k hk => ⟨(fun e => by cases e), fun hk' => by have := e8 k hk; have := nBq k hk'; omega⟩))
      have hEnd : Hid (∀ V4, FP nb key U3 q B (.slice none 0 0) kv [] (nilT kept) (kn : Int) n (.returned (.tuple #[])) V4 → V4.heap[D]? = some (.deferred (some [])) ∧ Qg nb key w q E B (L.filter fun x => !p x) n (V4.putObj D (.deferred none))) := by
        intro V4 hF
        obtain ⟨_, F', ⟨v', xs', B', Q6, m6, g6, at6⟩, hF'⟩ := hF
        have nD : ¬ (D = q ∨ nbk (.slice none 0 0) = some D ∨ nbk kv = some D) := by
          rintro (e | e | e)
          · omega
          · cases e
          · exact hnD ((e4 D).2 (.inr e))
        have lD3 : D < U3.heap.size := by have := mq.size; omega
        have hb4 : V4.heap[D]? = some (.deferred (some [])) := (m6.block D lD3 nD).trans ((mq.block D lD (by omega)).trans hK)
        refine ⟨hb4, ?_⟩
        have hF2 := hF'.resolve_left (fun z => z.1 rfl)
        have hQI := drop_QI a2 hk hF2.2.1 hF2.2.2
        have nv' : ∀ k, nbk v' = some k → U3.heap.size ≤ k := fun k e => by
          rcases at6 with z | ⟨k', z, hk'⟩
          · rw [e] at z; cases z
          · rw [e] at z; injection z with z; omega
        have sz3 := mq.size
        have szU := bU.size
        have mP : Mv (fun k => k = D) V4 (V4.putObj D (.deferred none)) := Mv.put (E := fun k => k = D) rfl _
        refine ⟨fun k => k = q ∨ nbk v' = some k, B', ⟨v', xs', F', _, ?_, hQI, hfl, by rw [← hkl]; omega, a5, fun _ => Iff.rfl⟩, ?_, ?_, ?_⟩
        · have := Q6.mv mP (show ¬ q = D by omega) (fun k hk e => by have := nv' k hk; omega) (fun k hk e => by
            rcases g6 k hk with z | z
            · have := nBq k z; omega
            · omega)
          rw [← hkl, hkn]
          exact this
        · refine (((Mv.below bU).trans (E' := fun k => k = q) (fun k e => .inl ((a6 k).2 (.inl e))) mq).trans (E' := fun k => k = q ∨ nbk (.slice none 0 0) = some k ∨ nbk kv = some k) (fun k hk => ?_) m6).trans (E' := fun k => k = D) (fun k e => .inr (by omega)) mP
          rcases hk with e | e | e
          · exact .inl ((a6 k).2 (.inl e))
          · cases e
          · exact .inr (by have := e8 k e; omega)
        · intro k hk
          rcases hk with e | e
          · exact .inl ((a6 k).2 (.inl e))
          · exact .inr (by have := nv' k e; omega)
        · intro k hk
          exact (g6 k hk).imp id (fun z => by omega)
      rw [hkv] at hfr hEnd
      have hres : (L.filter fun x => !p x).length = kn := by rw [← hkl, hkn]
      clear Qz sv3 mq k3 QU e2 e3 e4 e5 e6 e7 e8 e9 e10 hI row d1 d2 hM
      gi_wp2_with fail
      gi_region
      gi_wp2_with fail
      gi_region
      gi_wp2_with fail
      refine ⟨trivial, (callsIn_wide.2 hfr.out).mono ?_⟩
      rintro e V4 hF4
      obtain rfl := hF4.1
      have fin := hidP (hEnd.out V4 hF4)
      clear hF4 hEnd hfr
      gi_wp2_with fail
      refine ⟨by simp, .inl ⟨_, _, rfl, run_takeDeferred fin.out.1, ?_⟩⟩
      refine ⟨_, by simp [results, Tryz.results39, go_sem]; rfl, ?_⟩
      rw [hres, hcn]
      exact ⟨rfl, fin.out.2, fun e => by rw [e, List.length_nil] at hcn; omega⟩
    · have h0 : ¬ (0 : Int) < (cn : Int) - (kn : Int) := by omega
      have fin : Hid (Qg nb key w q E B (L.filter fun x => !p x) n (U.drew.putObj D (.deferred none)) ∧ (L = [] → Below w.heap.size w (U.drew.putObj D (.deferred none)))) := by
        have ef : (L.filter fun x => !p x) = L := List.filter_sublist.eq_of_length (by rw [← hkl, hkn, hcn]; omega)
        have bf : Below w.heap.size w (U.drew.putObj D (.deferred none)) := bU.drew.trans ((Mv.put (E := fun k => k = D) (W := U.drew) rfl _).toBelow bU.size (fun k hk e => by omega))
        rw [ef]
        exact ⟨⟨E, B, hq0.out.mv (D := fun _ => False) (Mv.below bf) (fun _ _ h => h) (fun _ _ h => h), Mv.below bf, Gr.refl _ _, Gr.refl _ _⟩, fun _ => bf⟩
      have hres : (L.filter fun x => !p x).length = kn := by rw [← hkl, hkn]
      have hKH := hidP (show U.drew.heap[D]? = some (.deferred (some [])) from hK)
      clear QU e2 e3 e4 e5 e6 e7 e8 e9 e10 hI row hK hM
      gi_wp2_with fail
      gi_region
      gi_wp2_with fail
      refine ⟨by simp, .inl ⟨_, _, rfl, run_takeDeferred hKH.out, ?_⟩⟩
      refine ⟨_, by simp [results, Tryz.results39, go_sem]; rfl, ?_⟩
      rw [hres, hcn]
      exact ⟨rfl, fin.out.1, fin.out.2⟩
  case stop =>
    intro D c E2 U hD hK hnD hm hg h
    exact h.elim
end Go.Proofs.YtjcdjkfnmobhkaaGreat.Qw
/- Forget: the closures, maps.DeleteFunc at the timers. -/
namespace Go.Proofs.YtjcdjkfnmobhkaaGreat
open Go.RowKit Go.Shelf Go.Lib
attribute [local go_sem] Oper.semAt_some
theorem beqT (x y : ByteArray) : (x.toList == y.toList) = decide (x = y) := by
  by_cases e : x = y
  · subst e; simp
  · have : ¬ x.toList = y.toList := fun z => e (ba_ext z)
    simp [e, this]
set_option maxRecDepth 100000 in
theorem forget1_any (x y : ByteArray) (at_ : Int) {br : Nat} {u : ByteArray} {W : World} (hc : W.cell? ⟨br, 0, none⟩ = some (.string u)) :
    Calls Tryz.prog 38 #[.agg #[.string x, .string y], .int .i64 at_, .pointer (some ⟨br, 0, none⟩)] W fun e V => e = .returned (.bool (decide (x = u))) ∧ Below W.heap.size W V := by
  obtain ⟨N, hN⟩ : ∃ N, W.heap.size = N := ⟨_, rfl⟩
  obtain ⟨W1, hW1⟩ : ∃ W1, W.alloc (.cells #[.string x, .string y] 82) = W1 := ⟨_, rfl⟩
  have b1 : Below W.heap.size W W1 := by rw [← hW1]; exact (Below.refl _ _).alloc (Nat.le_refl _) _
  have c0 : W1.cell? ⟨N, 0, none⟩ = some (.string x) := by rw [← hW1]; exact cell_at hN rfl
  have cu : W1.cell? ⟨br, 0, none⟩ = some (.string u) := bcell b1 (cell_lt hc) hc
  have bH := hidP b1
  clear b1 hc
  go_enter Tryz.func38, Tryz.ntmps38
  go_wp2_with (rw [hW1])
  go_ret
  exact ⟨by simp [beqT], bH.out⟩
set_option maxRecDepth 100000 in
theorem forget2_any (x : Wt) {br : Nat} {u : ByteArray} {W : World} (hc : W.cell? ⟨br, 0, none⟩ = some (.string u)) :
    Calls Tryz.prog 40 #[Qw.ev x, .pointer (some ⟨br, 0, none⟩)] W fun e V => e = .returned (.bool (decide (x.u = u))) ∧ Below W.heap.size W V := by
  obtain ⟨N, hN⟩ : ∃ N, W.heap.size = N := ⟨_, rfl⟩
  obtain ⟨xu, hxu⟩ : ∃ xu, x.u = xu := ⟨_, rfl⟩
  unfold Qw.ev
  rw [hxu]
  obtain ⟨W1, hW1⟩ : ∃ W1, W.alloc (.cells #[.int .i64 x.k, .int .i64 x.p, .int .i64 x.s, .string xu, .string x.x, .int .i64 x.n] 77) = W1 := ⟨_, rfl⟩
  have b1 : Below W.heap.size W W1 := by rw [← hW1]; exact (Below.refl _ _).alloc (Nat.le_refl _) _
  have c0 : W1.cell? ⟨N, 3, none⟩ = some (.string xu) := by rw [← hW1]; exact cell_at hN rfl
  have cu : W1.cell? ⟨br, 0, none⟩ = some (.string u) := bcell b1 (cell_lt hc) hc
  have bH := hidP b1
  clear b1 hc
  go_enter Tryz.func40, Tryz.ntmps40
  go_wp2_with (rw [hW1])
  go_ret
  exact ⟨by simp [beqT], bH.out⟩
theorem Rg.tm {W : World} {r : Nat} {v : Value} {T : List Du} {left : Lit → Bool} {cnt : Nat} (h : Rg W r v T left cnt) : TM W v T := by
  rcases h with ⟨rfl, rfl, _⟩ | ⟨b, n, l, rfl, h, hp⟩
  · exact .inl ⟨rfl, rfl⟩
  · refine .inr ⟨b, rfl, l, ?_, hp⟩
    have h3 := ownsMap_norm h.owns
    have h4 : Maps.size (.map l) = T.length := by
      rw [Maps.size_eq]
      have := hp.length_eq
      rw [List.length_map] at this
      exact this
    rw [h4] at h3
    exact h3
theorem Rg.drop {W : World} {r : Nat} {v : Value} {T : List Du} {left : Lit → Bool} {cnt : Nat} (h : Rg W r v T left cnt) (k : TK) (ty : TypeId) :
    ∃ W' cnt', (Builtin.delete_ #[71, 82] ty #[v, kV k]).run Tryz.prog W = .ok (.tuple #[]) W' ∧ Rg W' r v (delT k T) (fun z => left z && !z.sameKey (eT k)) cnt' ∧ cnt' ≤ cnt ∧ Mv (fun k => mbk v = some k) W W' := by
  rcases h with ⟨rfl, rfl, rfl, h⟩ | ⟨b, n, l, rfl, h, hp⟩
  · exact ⟨W, 0, Maps.drop_nil lawT Tryz.underlying71 (keyT k) ty, .inl ⟨rfl, rfl, rfl, h⟩, Nat.le_refl _, Mv.refl _ _⟩
  · obtain ⟨w', cnt', hrun, hr, hle, ht⟩ := h.drop lawT Tryz.underlying71 (keyT k) ty
    exact ⟨w', cnt', hrun, .inr ⟨b, n, _, rfl, hr, ent_del hp k⟩, hle, ((Mv.refl (fun k => mbk (.map (some b)) = some k) _).grown ht.grown (fun k e => .inl (by cases e; rfl)))⟩
/-- Going through the timers while those of a unit are deleted. -/
def DF (T : List Du) (u : ByteArray) (mv : Value) (V : World) (r : Nat) (left : Lit → Bool) (cnt : Nat) (wr : World) : Prop :=
  Rg wr r mv (T.filter fun d => left (eT d.k) || !decide (d.u = u)) left cnt ∧ Mv (fun k => mbk mv = some k) V wr
theorem DF.next {T : List Du} (hT : Ts T) {u : ByteArray} {mv : Value} {V : World} {r : Nat} {left : Lit → Bool} {cnt : Nat} {wr : World} (h : DF T u mv V r left cnt wr) (hr : V.heap.size ≤ r) :
    ((Instr.next (.pointer (some ⟨r, 0, none⟩)) false 0).run Tryz.prog wr = .ok (.tuple #[.bool false]) wr ∧ TM wr mv (T.filter fun d => !decide (d.u = u)) ∧ Mv (fun k => mbk mv = some k) V wr) ∨
    ∃ d ∈ T, ∃ W' cnt', (Instr.next (.pointer (some ⟨r, 0, none⟩)) false 0).run Tryz.prog wr = .ok (.tuple #[.bool true, .agg #[.string d.u, .string d.w], .int .i64 d.t]) W' ∧ (Instr.entry (.pointer (some ⟨r, 0, none⟩))).run Tryz.prog W' = .ok (.tuple #[.agg #[.string d.u, .string d.w], .int .i64 d.t]) W' ∧ cnt' < cnt ∧
      ∀ U, Below W'.heap.size W' U → Mv (fun k => mbk mv = some k) V U ∧ (¬ d.u = u → ∃ left', DF T u mv V r left' cnt' U) ∧
        (d.u = u → ∃ U' left' cnt2, (Builtin.delete_ #[71, 82] 0 #[mv, .agg #[.string d.u, .string d.w]]).run Tryz.prog U = .ok (.tuple #[]) U' ∧ DF T u mv V r left' cnt2 U' ∧ cnt2 < cnt) := by
  obtain ⟨rg, m⟩ := h
  rcases rg.next (hT.filter _) 0 with ⟨hl, hrun⟩ | ⟨d, hd, hl, W', cnt', hrun, hen, hrg, hlt, hm, hsz⟩
  · refine .inl ⟨hrun, ?_, m⟩
    have e : (T.filter fun d => left (eT d.k) || !decide (d.u = u)) = T.filter fun d => !decide (d.u = u) := by
      refine List.filter_congr fun x hx => ?_
      by_cases e : left (eT x.k) = true
      · have := hl x (List.mem_filter.2 ⟨hx, by simp [e]⟩)
        rw [e] at this; cases this
      · have e2 : left (eT x.k) = false := by simpa using e
        rw [e2]; rfl
    rw [← e]; exact rg.tm
  · have hdT := (List.mem_filter.1 hd).1
    have ne : ∀ x ∈ T, x ≠ d → (eT x.k).sameKey (eT d.k) = false := fun x hx e => Maps.sameKey_ne fun z => e (hT.one hx hdT (eT_inj z))
    refine .inr ⟨d, hdT, W', cnt', hrun, hen, hlt, fun U b => ?_⟩
    have mW : Mv (fun k => mbk mv = some k) V W' := m.trans (E' := fun k => k = r) (fun k e => .inr (e ▸ hr)) hm
    have mU : Mv (fun k => mbk mv = some k) V U := mW.trans' (Mv.below b)
    have rU := hrg.mv (E := fun _ => False) (Mv.below b) (fun h => h) (fun _ _ h => h)
    refine ⟨mU, fun hu => ⟨fun z => left z && !z.sameKey (eT d.k), ?_, mU⟩, fun hu => ?_⟩
    · have e : (T.filter fun x => (left (eT x.k) && !(eT x.k).sameKey (eT d.k)) || !decide (x.u = u)) = T.filter fun x => left (eT x.k) || !decide (x.u = u) := by
        refine List.filter_congr fun x hx => ?_
        by_cases e : x = d
        · subst e; simp [hu]
        · rw [ne x hx e]; simp
      show Rg U r mv (T.filter fun x => (left (eT x.k) && !(eT x.k).sameKey (eT d.k)) || !decide (x.u = u)) _ _
      rw [e]; exact rU
    · obtain ⟨U', cnt2, hr2, hg2, hle, hm2⟩ := rU.drop d.k 0
      refine ⟨U', fun z => (left z && !z.sameKey (eT d.k)) && !z.sameKey (eT d.k), cnt2, hr2, ⟨?_, mU.trans' hm2⟩, by omega⟩
      have e : delT d.k (T.filter fun x => left (eT x.k) || !decide (x.u = u)) = T.filter fun x => ((left (eT x.k) && !(eT x.k).sameKey (eT d.k)) && !(eT x.k).sameKey (eT d.k)) || !decide (x.u = u) := by
        unfold delT
        rw [List.filter_filter]
        refine List.filter_congr fun x hx => ?_
        by_cases e : x = d
        · subst e; simp [hu, WideAt.sameKey_self (klT _)]
        · have e2 : ¬ x.k = d.k := fun z => e (hT.one hx hdT z)
          rw [ne x hx e]; simp [e2]
      show Rg U' r mv (T.filter fun x => ((left (eT x.k) && !(eT x.k).sameKey (eT d.k)) && !(eT x.k).sameKey (eT d.k)) || !decide (x.u = u)) _ _
      rw [← e]; exact hg2
set_option maxRecDepth 100000 in
set_option maxHeartbeats 4000000 in
theorem delf_any {w : World} {mv : Value} {T : List Du} (h : TM w mv T) (hT : Ts T) {br : Nat} {u : ByteArray} (hc : w.cell? ⟨br, 0, none⟩ = some (.string u)) (hbr : mbk mv ≠ some br) :
    Calls Tryz.prog 37 #[mv, .func (.func 38) #[] #[.pointer (some ⟨br, 0, none⟩)]] w fun e V => e = .returned (.tuple #[]) ∧ TM V mv (T.filter fun d => !decide (d.u = u)) ∧ Mv (fun k => mbk mv = some k) w V := by
  obtain ⟨p, rfl⟩ : ∃ p, mv = .map p := by
    rcases h with ⟨e, _⟩ | ⟨b, e, _⟩
    · exact ⟨_, e⟩
    · exact ⟨_, e⟩
  obtain ⟨W1, left, cnt, hrun, rg, hall, hcnt, b1, s1⟩ := h.range hT
  obtain ⟨r, hr⟩ : ∃ r, w.heap.size = r := ⟨_, rfl⟩
  rw [hr] at hrun rg
  have d0 : Hid (DF T u (.map p) w r left cnt W1) := by
    refine ⟨?_, Mv.below b1⟩
    rw [List.filter_eq_self.2 fun x hx => by rw [hall x hx]; rfl]
    exact rg
  have hTH := hidP hT
  have hcH := hidP hc
  have hbrH := hidP hbr
  have hrH := hidP hr
  clear h hT hc hbr rg hall hcnt b1 s1 hr
  go_enter Tryz.func37, Tryz.ntmps37
  go_wp2_with fail
  go_loopw [4, 5] (fun _ _ wr => ∃ left cnt, Hid (DF T u (.map p) w r left cnt wr)) (fun _ _ wr => YtjcdjkfnmobhkaaGreat.mr r (.map p) wr)
  case atStart => exact ⟨left, cnt, d0⟩
  case round =>
    clear d0 hrun
    obtain ⟨left, cnt, hD⟩ := hrel
    have hms : Hid (YtjcdjkfnmobhkaaGreat.mr r (.map p) wr = cnt) := hD.out.1.mr
    rcases hD.out.next hTH.out (by have := hrH.out; omega) with ⟨hnx, tm, m⟩ | ⟨d, hd, W', cnt', hnx, hen, hlt, hU⟩
    · have tmH := hidP tm
      have mH := hidP m
      clear hD tm m
      go_wp2_with fail
      go_end0
      exact ⟨rfl, tmH.out, mH.out⟩
    · obtain ⟨W4, hW4⟩ : ∃ W4, W'.alloc (.cells #[.string d.u, .string d.w] 82) = W4 := ⟨_, rfl⟩
      obtain ⟨M, hM⟩ : ∃ M, W'.heap.size = M := ⟨_, rfl⟩
      have b4 : Below W'.heap.size W' W4 := by rw [← hW4]; exact (Below.refl _ _).alloc (Nat.le_refl _) _
      have t0 : W4.cell? ⟨M, 0, none⟩ = some (.string d.u) := by rw [← hW4]; exact cell_at hM rfl
      have t1 : W4.cell? ⟨M, 1, none⟩ = some (.string d.w) := by rw [← hW4]; exact cell_at hM rfl
      have c4 : W4.cell? ⟨br, 0, none⟩ = some (.string u) := (hU W4 b4).1.cell (a := ⟨br, 0, none⟩) hbrH.out hcH.out
      have hF := hidP (forget1_any d.u d.w d.t c4)
      have s4 : M < W4.heap.size := by rw [← hW4]; simp [hM]
      have hUH := hidP (fun U (b : Below W4.heap.size W4 U) => hU U (b4.trans (b.mono b4.size)))
      have tt : Hid (∀ U, Below W4.heap.size W4 U → U.cell? ⟨M, 0, none⟩ = some (.string d.u) ∧ U.cell? ⟨M, 1, none⟩ = some (.string d.w)) := fun U b => ⟨bcell b s4 t0, bcell b s4 t1⟩
      have msH : Hid (∀ U left2 cnt2, DF T u (.map p) w r left2 cnt2 U → cnt2 < cnt → YtjcdjkfnmobhkaaGreat.mr r (.map p) U < YtjcdjkfnmobhkaaGreat.mr r (.map p) wr) := fun U l2 c2 h5 e => by
        rw [h5.1.mr, hms.out]; exact e
      have hltH2 := hidP hlt
      clear hD hU b4 c4 s4 hlt
      go_wp2_with (rw [hW4])
      refine hF.out.mono ?_
      rintro e U ⟨rfl, bU⟩
      obtain ⟨_, h1, h2⟩ := hUH.out U bU
      obtain ⟨t0', t1'⟩ := tt.out U bU
      by_cases hu : d.u = u
      · have hud : decide (d.u = u) = true := by simpa using hu
        obtain ⟨U', l2, c2, hdel, hD2, hc2⟩ := h2 hu
        have hD2H := hidP hD2
        have hc2H := hidP hc2
        rw [hud]
        clear h1 h2 hF hUH tt bU hW4 hu hud hD2 hc2 t0 t1
        go_wp2_with (first | rw [hdel] | (at_builtin; refine wpList_builtin_run rfl _ _ _ _ rfl rfl hdel ?_))
        exact ⟨⟨l2, c2, hD2H⟩, msH.out U' l2 c2 hD2H.out hc2H.out⟩
      · have hud : decide (d.u = u) = false := by simpa using hu
        obtain ⟨l2, hD2⟩ := h1 hu
        have hD2H := hidP hD2
        rw [hud]
        clear h1 h2 hF hUH tt bU hW4 hu hud hD2 t0 t1
        go_wp2_with fail
        exact ⟨⟨l2, cnt', hD2H⟩, msH.out U l2 cnt' hD2H.out hltH2.out⟩
end Go.Proofs.YtjcdjkfnmobhkaaGreat
/- Forget: the queue's part. -/
namespace Go.Proofs.YtjcdjkfnmobhkaaGreat
open Go.RowKit Go.Shelf Go.Lib
attribute [local go_sem] Oper.semAt_some
theorem TM.len {w : World} {v : Value} {T : List Du} (h : TM w v T) (ty : TypeId) : (Builtin.len_ #[71] ty #[v]).run Tryz.prog w = .ok (.int .i64 T.length) w := by
  rcases h with ⟨rfl, rfl⟩ | ⟨b, rfl, h⟩
  · exact Maps.len_nil Tryz.underlying71 ty
  · exact h.len Tryz.underlying71 ty
theorem dropl_any {w : World} {lb : Nat} {E : Nat → Prop} {L : List Wt} {n : Nat} {T : List Du} (h : Lo w lb E L n T) {br : Nat} {u : ByteArray} (cr : w.cell? ⟨br, 0, none⟩ = some (.string u)) :
    Calls Tryz.prog 39 #[lp lb, .func (.func 40) #[] #[.pointer (some ⟨br, 0, none⟩)]] w fun e V => e = .returned (.int .i64 ((L.length : Int) - (L.filter fun x => !decide (x.u = u)).length)) ∧ Lg w lb E (L.filter fun x => !decide (x.u = u)) n T V ∧ ∀ v, w.cell? ⟨lb, 5, none⟩ = some v → V.cell? ⟨lb, 5, none⟩ = some v ∧ TM V v T := by
  obtain ⟨Eq, B, mv, h1, h2, h3, h4, h5, h6, h7, h8⟩ := h
  have hq := Qu.q h1
  have hB : L ≠ [] → Qw.Bf (nbq n mv) keyW := fun hne => bfq (fun e => by have := hq.2.2.1; have := List.length_pos_iff.2 hne; omega) mv
  refine (Qw.drop_all hB h1 cr (enters_of Tryz.func40 (by kernel_rfl) rfl) (p := fun x => decide (x.u = u)) (fun x W hc => forget2_any x hc)).mono ?_
  rintro e V ⟨rfl, ⟨E', B', u1, m, g, gb⟩, hnil⟩
  have lm : ∀ k, mbk mv = some k → k < w.heap.size := fun k hk => h3.lt hk
  have ne : ∀ k, mbk mv = some k → ¬ Eq k := fun k hk => (h6 k hk).1
  have t' := h3.mv m ne
  refine ⟨rfl, ⟨fun k => E' k ∨ B' k ∨ mbk mv = some k, ⟨E', B', mv, u1, fun e => ?_, t', h4, fun k => Iff.rfl, fun k hk => ⟨fun e => ?_, fun e => ?_⟩, fun y hy => h7 y (List.mem_filter.1 hy).1, h8⟩, m.mono fun k _ e => (h5 k).2 (.inl e), fun k hk => ?_⟩, fun v hv => ?_⟩
  · have hL : L = [] := List.eq_nil_of_length_eq_zero (by have := hq.2.2.1; omega)
    exact (bfroz (hnil hL) (h1.lt.1 lb hq.1)).trans (h2 e)
  · rcases g k e with s | s
    · exact ne k hk s
    · have := lm k hk; omega
  · rcases gb k e with s | s
    · exact (h6 k hk).2 s
    · have := lm k hk; omega
  · rcases hk with e | e | e
    · exact (g k e).imp (fun s => (h5 k).2 (.inl s)) id
    · exact (gb k e).imp (fun s => (h5 k).2 (.inr (.inl s))) id
    · exact .inl ((h5 k).2 (.inr (.inr e)))
  · have e : v = mv := by
      have := (Qu.xt h1).1 5 (by omega)
      rw [hv] at this
      exact Option.some.inj this
    subst e
    exact ⟨(Qu.xt u1).1 5 (by omega), t'⟩
end Go.Proofs.YtjcdjkfnmobhkaaGreat
/- Forget. -/
namespace Go.Proofs.YtjcdjkfnmobhkaaGreat
open Go.RowKit Go.Shelf Go.Lib
attribute [local go_sem] Oper.semAt_some
/-- The unit's timers, its events, are gone. -/
def goneT (u : ByteArray) (T : List Du) : List Du := T.filter fun d => !decide (d.u = u)
def goneL (u : ByteArray) (L : List Wt) : List Wt := L.filter fun x => !decide (x.u = u)
set_option maxRecDepth 100000 in
set_option maxHeartbeats 4000000 in
theorem forget_any {w : World} {lb : Nat} {E : Nat → Prop} {L : List Wt} {n : Nat} {T : List Du} (h : Lo w lb E L n T) (u : ByteArray) :
    Calls Tryz.prog 18 #[lp lb, .string u] w fun e V => e = .returned (.int .i64 (((T.length : Int) - (goneT u T).length) + ((L.length : Int) - (goneL u L).length))) ∧ Lg w lb E (goneL u L) n (goneT u T) V := by
  obtain ⟨N, hN⟩ : ∃ N, w.heap.size = N := ⟨_, rfl⟩
  obtain ⟨W0, hW0⟩ : ∃ W0, w.alloc (.cells #[.string u] 9) = W0 := ⟨_, rfl⟩
  have b0 : Below w.heap.size w W0 := by rw [← hW0]; exact (Below.refl _ _).alloc (Nat.le_refl _) _
  have c0 : W0.cell? ⟨N, 0, none⟩ = some (.string u) := by rw [← hW0]; exact cell_at hN rfl
  have l0 := h.below b0
  have lt0 := h.lt
  have hql : L.length ≤ 200000 := by
    obtain ⟨_, _, _, h1, _⟩ := h
    have := Qu.q h1
    omega
  obtain ⟨mv, c5, f5, tm, sub, fin0⟩ := l0.tm
  obtain ⟨p, rfl⟩ : ∃ p, mv = .map p := by
    rcases tm with ⟨e, _⟩ | ⟨b, e, _⟩
    · exact ⟨_, e⟩
    · exact ⟨_, e⟩
  have hlen0 : (Builtin.len_ #[71] 3 #[.map p]).run Tryz.prog W0 = .ok (.int .i64 T.length) W0 := tm.len 3
  have hT := l0.ts
  have hTl := l0.tlen
  have ne5 : mbk (.map p) ≠ some N := fun e => by have := lt0.1 N (sub N e).1; omega
  have hDel := delf_any tm hT c0 ne5
  have hDel' : Hid (Calls Tryz.prog 37 #[.map p, .func (.func 38) #[] #[.pointer (some ⟨N, 0, none⟩)]] W0 fun e V => e = .returned (.tuple #[]) ∧ Lo V lb E L n (goneT u T) ∧ V.cell? ⟨N, 0, none⟩ = some (.string u) ∧ V.cell? ⟨lb, 5, none⟩ = some (.map p) ∧ TM V (.map p) (goneT u T) ∧ Mv E w V) := by
    refine hDel.mono ?_
    rintro e V ⟨rfl, t', m⟩
    refine ⟨rfl, fin0 V _ t' (hT.filter _) (Nat.le_trans (List.length_filter_le _ _) hTl) m, m.cell (a := ⟨N, 0, none⟩) ne5 c0, m.cell (a := ⟨lb, 5, none⟩) (fun e => (sub lb e).2 rfl) c5, t', (Mv.below b0).trans' (m.mono fun k _ e => (sub k e).1)⟩
  obtain ⟨tn, htn⟩ : ∃ tn, T.length = tn := ⟨_, rfl⟩
  obtain ⟨t1, ht1⟩ : ∃ t1, (goneT u T).length = t1 := ⟨_, rfl⟩
  obtain ⟨ln, hln⟩ : ∃ ln, L.length = ln := ⟨_, rfl⟩
  obtain ⟨l1, hl1⟩ : ∃ l1, (goneL u L).length = l1 := ⟨_, rfl⟩
  have le1 : t1 ≤ tn := by rw [← htn, ← ht1]; exact List.length_filter_le _ _
  have le2 : l1 ≤ ln := by rw [← hln, ← hl1]; exact List.length_filter_le _ _
  rw [htn] at hTl hlen0 ⊢
  rw [hln] at hql ⊢
  rw [ht1, hl1]
  obtain ⟨d1, hd1⟩ : ∃ d1 : Int, (tn : Int) - (t1 : Int) = d1 := ⟨_, rfl⟩
  obtain ⟨d2, hd2⟩ : ∃ d2 : Int, (ln : Int) - (l1 : Int) = d2 := ⟨_, rfl⟩
  obtain ⟨d3, hd3⟩ : ∃ d3 : Int, d1 + d2 = d3 := ⟨_, rfl⟩
  rw [hd1, hd2, hd3]
  have w1 : IntKind.i64.wrap ((tn : Int) - (t1 : Int)) = d1 := by rw [IntKind.wrap_i64]; omega
  have w2 : IntKind.i64.wrap (d1 + d2) = d3 := by rw [IntKind.wrap_i64]; omega
  have hlnH := hidP hln
  have hl1H := hidP hl1
  have hd2H := hidP hd2
  have ht1H := hidP ht1
  have lEH := hidP lt0
  have hNH := hidP hN
  clear h b0 c0 l0 lt0 tm sub fin0 hT hTl ne5 hDel hln hl1 hd1 hd2 hd3 htn ht1 le1 le2 hql f5
  unfold lp at *
  go_enter Tryz.func18, Tryz.ntmps18
  go_wp2_with (rw [hW0])
  refine hDel'.out.mono ?_
  rintro e V1 ⟨rfl, l1', cN, c51, t1', m1⟩
  have hDr0 := dropl_any (l1'.below ((Below.refl V1.heap.size V1).drew)) (br := N) (u := u) cN
  have hS : (V1.drew.cell? ⟨lb, 5, none⟩ = some (.map p)) ∧ (Builtin.len_ #[71] 3 #[.map p]).run Tryz.prog V1.drew = .ok (.int .i64 t1) V1.drew := ⟨c51, by rw [← ht1H.out]; exact (t1'.mv (E := fun _ => False) (Mv.drew _ _) (fun _ _ h => h)).len 3⟩
  have hDr : Hid (Calls Tryz.prog 39 #[.pointer (some ⟨lb, 0, none⟩), .func (.func 40) #[] #[.pointer (some ⟨N, 0, none⟩)]] V1.drew fun e V => e = .returned (.int .i64 d2) ∧ Lg w lb E (goneL u L) n (goneT u T) V ∧ (V.cell? ⟨lb, 5, none⟩ = some (.map p) ∧ (Builtin.len_ #[71] 3 #[.map p]).run Tryz.prog V = .ok (.int .i64 t1) V)) := by
    refine hDr0.mono ?_
    rintro e V ⟨rfl, ⟨E', q1, q2, q3⟩, hv⟩
    obtain ⟨v1, v2⟩ := hv _ c51
    refine ⟨?_, ⟨E', q1, (m1.trans' (Mv.drew _ _)).trans' q2, fun k hk => ?_⟩, v1, by rw [← ht1H.out]; exact v2.len 3⟩
    · have e1 := hlnH.out
      have e2 := hl1H.out
      have e3 := hd2H.out
      unfold goneL at e2
      rw [e1, e2, e3]
    · rcases q3 k hk with s | s
      · exact .inl s
      · have := m1.size
        exact .inr (by have : V1.heap.size ≤ k := s; omega)
  clear hDel' l1' cN c51 t1' m1 hDr0 c5 hlen0 hW0
  go_wp2_with fail
  refine Zs.region (S := fun W => W.cell? ⟨lb, 5, none⟩ = some (.map p) ∧ (Builtin.len_ #[71] 3 #[.map p]).run Tryz.prog W = .ok (.int .i64 t1) W) 13 (by kernel_rfl) ?_
  refine Zs.pure (i := 0) (oi := ⟨some 17, _, _, _, _, _⟩) (v := .int .i64 tn) rfl (by kernel_rfl) (by kernel_rfl) (by kernel_rfl) (by decide) (fun _ _ _ h => h) (Or.inl ⟨by rfl, ?hy0⟩) hS ?_
  case hy0 => (intro w hSw; (try dsimp only at hSw); go_simp; try with_reducible rfl)
  simp only [Act.put, List.setIfInBounds_toArray, List.set_cons_zero, List.set_cons_succ]
  refine Zs.pure (i := 1) (oi := ⟨some 18, _, _, _, _, _⟩) (v := .pointer (some ⟨lb, 0, none⟩)) rfl (by kernel_rfl) (by kernel_rfl) (by kernel_rfl) (by decide) (fun _ _ _ h => h) (Or.inl ⟨by rfl, ?hy1⟩) hS ?_
  case hy1 => (intro w hSw; (try dsimp only at hSw); go_simp; try with_reducible rfl)
  simp only [Act.put, List.setIfInBounds_toArray, List.set_cons_zero, List.set_cons_succ]
  refine Zs.pure (i := 2) (oi := ⟨some 19, _, _, _, _, _⟩) (v := .pointer (some ⟨lb, 0, none⟩)) rfl (by kernel_rfl) (by kernel_rfl) (by kernel_rfl) (by decide) (fun _ _ _ h => h) (Or.inl ⟨by rfl, ?hy2⟩) hS ?_
  case hy2 => (intro w hSw; (try dsimp only at hSw); go_simp; try with_reducible rfl)
  simp only [Act.put, List.setIfInBounds_toArray, List.set_cons_zero, List.set_cons_succ]
  refine Zs.pure (i := 3) (oi := ⟨some 20, _, _, _, _, _⟩) (v := .pointer (some ⟨lb, 5, none⟩)) rfl (by kernel_rfl) (by kernel_rfl) (by kernel_rfl) (by decide) (fun _ _ _ h => h) (Or.inl ⟨by rfl, ?hy3⟩) hS ?_
  case hy3 => (intro w hSw; (try dsimp only at hSw); go_simp; try with_reducible rfl)
  simp only [Act.put, List.setIfInBounds_toArray, List.set_cons_zero, List.set_cons_succ]
  refine Zs.takeC (i := 4) (oi := ⟨some 21, _, _, _, _, _⟩) (v := .map p) 10 rfl (by kernel_rfl) (by kernel_rfl) (by kernel_rfl) (by decide) (by kernel_rfl) (by kernel_rfl) (by kernel_rfl) (fun _ _ _ h => h) (Or.inl ⟨by rfl, ?hy4⟩) hS ?_
  case hy4 => (intro w hSw; (try dsimp only at hSw); go_simp; try with_reducible rfl)
  simp only [Act.put, List.setIfInBounds_toArray, List.set_cons_zero, List.set_cons_succ]
  refine Zs.takeC (i := 5) (oi := ⟨some 22, _, _, _, _, _⟩) (v := .int .i64 t1) 10 rfl (by kernel_rfl) (by kernel_rfl) (by kernel_rfl) (by decide) (by kernel_rfl) (by kernel_rfl) (by kernel_rfl) (fun _ _ _ h => h) (Or.inl ⟨by rfl, ?hy5⟩) hS ?_
  case hy5 => (intro w hSw; (try dsimp only at hSw); go_simp; try with_reducible rfl)
  simp only [Act.put, List.setIfInBounds_toArray, List.set_cons_zero, List.set_cons_succ]
  refine Zs.pure (i := 6) (oi := ⟨some 23, _, _, _, _, _⟩) (v := .int .i64 d1) rfl (by kernel_rfl) (by kernel_rfl) (by kernel_rfl) (by decide) (fun _ _ _ h => h) (Or.inl ⟨by rfl, ?hy6⟩) hS ?_
  case hy6 => (intro w hSw; (try dsimp only at hSw); go_simp; try with_reducible rfl)
  simp only [Act.put, List.setIfInBounds_toArray, List.set_cons_zero, List.set_cons_succ]
  refine Zs.pure (i := 7) (oi := ⟨some 24, _, _, _, _, _⟩) (v := .pointer (some ⟨lb, 0, none⟩)) rfl (by kernel_rfl) (by kernel_rfl) (by kernel_rfl) (by decide) (fun _ _ _ h => h) (Or.inl ⟨by rfl, ?hy7⟩) hS ?_
  case hy7 => (intro w hSw; (try dsimp only at hSw); go_simp; try with_reducible rfl)
  simp only [Act.put, List.setIfInBounds_toArray, List.set_cons_zero, List.set_cons_succ]
  refine Zs.pure (i := 8) (oi := ⟨some 25, _, _, _, _, _⟩) (v := .pointer (some ⟨lb, 0, none⟩)) rfl (by kernel_rfl) (by kernel_rfl) (by kernel_rfl) (by decide) (fun _ _ _ h => h) (Or.inl ⟨by rfl, ?hy8⟩) hS ?_
  case hy8 => (intro w hSw; (try dsimp only at hSw); go_simp; try with_reducible rfl)
  simp only [Act.put, List.setIfInBounds_toArray, List.set_cons_zero, List.set_cons_succ]
  refine Zs.pure (i := 9) (oi := ⟨some 26, _, _, _, _, _⟩) (v := .pointer (some ⟨lb, 0, none⟩)) rfl (by kernel_rfl) (by kernel_rfl) (by kernel_rfl) (by decide) (fun _ _ _ h => h) (Or.inl ⟨by rfl, ?hy9⟩) hS ?_
  case hy9 => (intro w hSw; (try dsimp only at hSw); go_simp; try with_reducible rfl)
  simp only [Act.put, List.setIfInBounds_toArray, List.set_cons_zero, List.set_cons_succ]
  refine Zs.pure (i := 10) (oi := ⟨some 27, _, _, _, _, _⟩) (v := .func (.func 40) #[] #[.pointer (some ⟨N, 0, none⟩)]) rfl (by kernel_rfl) (by kernel_rfl) (by kernel_rfl) (by decide) (fun _ _ _ h => h) (Or.inl ⟨by rfl, ?hy10⟩) hS ?_
  case hy10 => (intro w hSw; (try dsimp only at hSw); go_simp; try with_reducible rfl)
  simp only [Act.put, List.setIfInBounds_toArray, List.set_cons_zero, List.set_cons_succ]
  refine Zs.one (i := 11) (oi := ⟨some 28, _, _, _, _, _⟩) (by kernel_rfl) rfl (fun K hK => ?_)
  go_simp
  refine hDr.out.mono ?_
  rintro e V2 ⟨rfl, hg, hS2⟩
  have hgH := hidP hg
  clear hDr hg
  go_wp2_with fail
  refine hK.out _ _ (fun _ => hS2) ?_
  clear hK K
  try simp only [Act.put, List.setIfInBounds_toArray, List.set_cons_zero, List.set_cons_succ]
  refine Zs.pure (i := 12) (oi := ⟨some 29, _, _, _, _, _⟩) (v := .int .i64 d3) rfl (by kernel_rfl) (by kernel_rfl) (by kernel_rfl) (by decide) (fun _ _ _ h => h) (Or.inl ⟨by rfl, ?hy12⟩) hS2 ?_
  case hy12 => (intro w hSw; (try dsimp only at hSw); go_simp; try with_reducible rfl)
  simp only [Act.put, List.setIfInBounds_toArray, List.set_cons_zero, List.set_cons_succ]
  refine Zs.one (i := 13) (oi := ⟨some 4, _, _, _, _, _⟩) (by kernel_rfl) rfl (fun K hK => ?_)
  go_simp
  refine hK.out _ _ (fun q => absurd q (by decide)) ?_
  clear hK K
  try simp only [Act.put, List.setIfInBounds_toArray, List.set_cons_zero, List.set_cons_succ]
  refine Zs.done (by kernel_rfl) ?_ _
  go_wp2_with fail
  go_ret
  exact ⟨rfl, hgH.out⟩
end Go.Proofs.YtjcdjkfnmobhkaaGreat
/- The timers, given to the law's closure. -/
namespace Go.Proofs.YtjcdjkfnmobhkaaGreat
open Go.RowKit Go.Shelf Go.Lib
attribute [local go_sem] Oper.semAt_some
set_option maxRecDepth 100000 in
set_option maxHeartbeats 4000000 in
theorem due_all {now : Int} {lb n bl bn : Nat} {El : Nat → Prop} {L : List Wt} {T : List Du} (k1 k2 k3 : Nat) (E1 : Nat → Prop) (V : World) (hV : Lo V lb El L n T) (cbl : V.cell? ⟨bl, 0, none⟩ = some (lp lb)) (cbn : V.cell? ⟨bn, 0, none⟩ = some (.int .i64 now)) (J : List Du → (Nat → Prop) → World → Prop) (hJ : Ter V.heap.size J)
    (hY : ∀ x rest E W, J (x :: rest) E W → Calls Tryz.prog 29 #[.agg #[.string x.u, .string x.w, .int .i64 x.t], .pointer (some ⟨k1, 0, none⟩), .pointer (some ⟨k2, 0, none⟩), .pointer (some ⟨k3, 0, none⟩)] W fun e W' => e = .returned (.bool true) ∧ Mv E W W' ∧ ∃ E', Gr E W E' ∧ J rest E' W')
    (h0 : J (T.filter fun d => decide (d.t ≤ now)) E1 V) :
    Calls Tryz.prog 53 #[.func (.func 29) #[] #[.pointer (some ⟨k1, 0, none⟩), .pointer (some ⟨k2, 0, none⟩), .pointer (some ⟨k3, 0, none⟩)], .pointer (some ⟨bl, 0, none⟩), .pointer (some ⟨bn, 0, none⟩)] V fun e W => e = .returned (.tuple #[]) ∧ Mv E1 V W ∧ ∃ E', Gr E1 V E' ∧ J [] E' W := by
  have lJ := hJ.low _ _ _ h0
  obtain ⟨N, hN⟩ : ∃ N, V.heap.size = N := ⟨_, rfl⟩
  obtain ⟨W1, hW1⟩ : ∃ W1, V.alloc (.cells #[.func (.func 29) #[] #[.pointer (some ⟨k1, 0, none⟩), .pointer (some ⟨k2, 0, none⟩), .pointer (some ⟨k3, 0, none⟩)]] 65) = W1 := ⟨_, rfl⟩
  have b1 : Below V.heap.size V W1 := by rw [← hW1]; exact (Below.refl _ _).alloc (Nat.le_refl _) _
  have s1 : W1.heap.size = N + 1 := by rw [← hW1]; simp [hN]
  have y1 : W1.cell? ⟨N, 0, none⟩ = some (.func (.func 29) #[] #[.pointer (some ⟨k1, 0, none⟩), .pointer (some ⟨k2, 0, none⟩), .pointer (some ⟨k3, 0, none⟩)]) := by rw [← hW1]; exact cell_at hN rfl
  have hT := hV.ts
  have hTl := hV.tlen
  have lEl := hV.lt.1
  have hNw : Hid (Calls Tryz.prog 54 #[.func (.func 55) #[] #[]] W1 fun e W2 => e = .returned (.pointer (some ⟨N + 1, 0, none⟩)) ∧ W2.cell? ⟨bl, 0, none⟩ = some (lp lb) ∧ ∃ mv W3 r left cnt, W2.cell? ⟨lb, 5, none⟩ = some mv ∧ (Instr.range 71 mv).run Tryz.prog W2 = .ok (.pointer (some ⟨r, 0, none⟩)) W3 ∧ DL now T mv (N + 1) W1 (N + 1) r left (fun d => left (eT d.k) = false) cnt cnt W3 ∧ (∀ k, mbk mv = some k → k < N + 1) ∧ N + 1 ≤ r) := by
    have hq := Qd.new_any (nb := nbD) rfl rfl (key := keyD) W1
    refine hq.mono ?_
    rintro e W2 ⟨rfl, qu, b2⟩
    rw [s1] at qu
    have b12 : Below N V W2 := by rw [← hN]; exact b1.trans (b2.mono (by omega))
    have hV2 := hV.below (hN ▸ b12)
    obtain ⟨mv, c5, _, tm, sub, _⟩ := hV2.tm
    obtain ⟨W3, left, cnt, hrun, rg, hall, hcnt, b3, s3⟩ := tm.range hT
    have lmv : ∀ k, mbk mv = some k → k < N := fun k hk => by have := lEl k (sub k hk).1; omega
    have s2 := b2.size
    refine ⟨by rw [s1]; rfl, bcell b12 (by have := cell_lt cbl; simp only at this; omega) cbl, mv, W3, _, left, cnt, c5, hrun, ⟨[], 0, fun k => k = N + 1, fun _ => False, qu.mv (D := fun _ => False) (Mv.below b3) (fun _ _ h => h) (fun _ _ h => h), fun d => ⟨(fun z => by cases z), fun z => ?_⟩, List.Pairwise.nil, rg, by omega, (s1 ▸ b2).trans (b3.mono (by omega)), fun k hk => ?_⟩, fun k hk => by have := lmv k hk; omega, by omega⟩
    · have z1 := hall d z.1
      have z2 : left (eT d.k) = false := z.2.2
      rw [z1] at z2; cases z2
    · rcases hk with rfl | hk
      · exact ⟨Nat.le_refl _, by have := qu.lt.1 (N + 1) rfl; omega⟩
      · exact hk.elim
  have hJH := hidP hJ
  have hYH := hidP hY
  have h0H := hidP h0
  have hTH := hidP hT
  have hTlH := hidP hTl
  have lJH := hidP lJ
  have hYc : Hid (∀ w', Below (N + 1) W1 w' → w'.cell? ⟨N, 0, none⟩ = some (.func (.func 29) #[] #[.pointer (some ⟨k1, 0, none⟩), .pointer (some ⟨k2, 0, none⟩), .pointer (some ⟨k3, 0, none⟩)])) := fun w' b => bcell b (by omega) y1
  have bV1H : Hid (Below N V W1) := by show Below _ _ _; rw [← hN]; exact b1
  have cbn1 : Hid (W1.cell? ⟨bn, 0, none⟩ = some (.int .i64 now)) := bcell b1 (cell_lt cbn) cbn
  have cbnH := hidP cbn
  have hNH := hidP hN
  have cbl1 : W1.cell? ⟨bl, 0, none⟩ = some (lp lb) := bcell b1 (cell_lt cbl) cbl
  have eqb : N ≤ W1.heap.size := by omega
  clear hV cbl hJ hY h0 hT hTl lJ y1 lEl b1 cbn s1 cbl1 eqb
  unfold lp at *
  refine (callsIn_wide (n := 5)).1 ?_
  refine callsIn_of_wp_marks Tryz.func53 rfl trivial ?_ rfl
  simp only [Tryz.ntmps53, List.size_toArray, List.length_cons, List.length_nil, Nat.reduceAdd, Nat.reduceSub, Array.replicate_succ, Array.replicate_zero, List.push_toArray, List.append_toArray, List.nil_append, List.cons_append]
  gi_wp2_with (rw [hW1])
  refine ⟨trivial, (callsIn_wide.2 hNw.out).mono ?_⟩
  rintro e W2 ⟨rfl, dbl, mv, W3, r, left, cnt, c5, hrun, hD, hv, hr⟩
  have hDH := hidP hD
  have hvH := hidP hv
  have hrH := hidP hr
  clear hNw hD hv hr hN
  gi_wp2_with fail
  gi_loopw [5, 6] (fun _ _ wr => ∃ left cnt, Hid (DL now T mv (N + 1) W1 (N + 1) r left (fun d => left (eT d.k) = false) cnt cnt wr)) (fun _ _ wr => YtjcdjkfnmobhkaaGreat.mr r mv wr)
  case atStart => exact ⟨left, cnt, hDH⟩
  case round =>
    clear hDH c5 hrun dbl
    obtain ⟨left, cnt, hD⟩ := hrel
    have hms : Hid (YtjcdjkfnmobhkaaGreat.mr r mv wr = cnt) := by
      obtain ⟨_, _, _, _, _, _, _, rg, _⟩ := hD.out
      exact rg.mr
    rcases hD.out.next hTH.out hvH.out (Nat.le_refl _) hrH.out 0 with ⟨hnx, n2, Eq, B, qu, bw, hge⟩ | ⟨d, hd, W', cnt', hnx, hen, hsz, hlt, hmv, hD', hl, hl0⟩
    · clear hD
      have hbwH := hidP bw
      have hsz : Hid (N < wr.heap.size) := by
        show _ < _
        have : N + 1 < wr.heap.size := qu.lt.1 (N + 1) (by obtain ⟨_, _, _, _, _, _, _, _, _, a6⟩ := qu; exact (a6 _).2 (.inl rfl))
        omega
      obtain ⟨U, hU⟩ : ∃ U, wr.alloc (.cells #[Qd.qp (N + 1)] 108) = U := ⟨_, rfl⟩
      have bU : Below wr.heap.size wr U := by rw [← hU]; exact (Below.refl _ _).alloc (Nat.le_refl _) _
      have hA := Qd.allf_any (N + 1) wr
      rw [hU] at hA
      obtain ⟨bb, hbb⟩ : ∃ bb, wr.heap.size = bb := ⟨_, rfl⟩
      have cbb : U.cell? ⟨bb, 0, none⟩ = some (Qd.qp (N + 1)) := by rw [← hU]; exact cell_at hbb rfl
      have lN := hNH.out
      have bVU : Below N V U := bV1H.out.trans ((bw.trans (bU.mono (by have := hsz.out; omega))).mono (by omega))
      have mV : Mv E1 V U := Mv.below (lN ▸ bVU)
      have quU := qu.mv (D := fun _ => False) (Mv.below bU) (fun _ _ h => h) (fun _ _ h => h)
      have hrow := Qd.allq_row bfDue (bl := bb) E1 U quU cbb (fun e => by have := lJH.out _ e; have := hsz.out; omega) (fun k hk e => by have := lJH.out _ e; have := hge k (.inl hk); omega) (fun k hk e => by have := lJH.out _ e; have := hge k (.inr hk); omega)
      have k0 : J (T.filter fun d => decide (d.t ≤ now)) E1 U := hJH.out.keep _ _ _ _ h0H.out (Mv.below (lN ▸ bVU))
      have sU : V.heap.size ≤ U.heap.size := mV.size
      have cy : U.cell? ⟨N, 0, none⟩ = some (.func (.func 29) #[] #[.pointer (some ⟨k1, 0, none⟩), .pointer (some ⟨k2, 0, none⟩), .pointer (some ⟨k3, 0, none⟩)]) := by
        have y2 : wr.cell? ⟨N, 0, none⟩ = some (.func (.func 29) #[] #[.pointer (some ⟨k1, 0, none⟩), .pointer (some ⟨k2, 0, none⟩), .pointer (some ⟨k3, 0, none⟩)]) := hYc.out wr bw
        exact bcell bU hsz.out y2
      have ey : ¬ E1 N := fun e => by have := lJH.out _ e; omega
      have tI := hJH.out.up sU
      have hA2 : Hid (Calls Tryz.prog 57 #[.pointer (some ⟨N + 1, 0, none⟩)] wr fun e V => e = .returned (.func (.func 72) #[] #[.pointer (some ⟨bb, 0, none⟩)]) ∧ V = U) := by rw [← hbb]; exact hA
      have hrowH := hidP hrow
      have k0H := hidP k0
      have mVH := hidP mV
      have cyH := hidP cy
      have tIH := hidP tI
      clear hA hrow k0 mV cy tI quU bVU bU cbb hU qu bw hge hbwH lN
      gi_wp2_with fail
      refine ⟨trivial, (callsIn_wide.2 hA2.out).mono ?_⟩
      rintro e V' ⟨rfl, rfl⟩
      gi_wp2_with fail
      refine loop_out (gf := 72) (lb := #[.pointer (some ⟨bb, 0, none⟩)]) rfl (enters_of Tryz.func72 (by kernel_rfl) rfl) hrowH.out (fun _ => rfl)
        J (fun _ _ _ => False) tIH.out ⟨fun _ _ _ _ h _ => h.elim, fun _ _ _ h => h.elim⟩ k0H.out ?round ?done ?stop
      case round =>
        intro l1 hl1 x rest E2 U1 hi hm hg hEl hrec
        have hlt : l1 < U1.heap.size := by obtain ⟨r, hr⟩ := hrec; exact (Array.getElem?_eq_some_iff.1 hr).1
        simp only [Qd.encE]
        gi_wp2
        refine ⟨⟨Mv.alloc _ _ _, ?_⟩, fun U2 tw => ?_⟩
        · exact Below.heap_alloc _ _ _ hlt
        obtain ⟨hi2, hm2⟩ := tw.go tIH.out hi (Mv.alloc _ _ _) hm (Nat.le_refl _) hl1 hEl
        have cy2 : U2.cell? ⟨N, 0, none⟩ = some (.func (.func 29) #[] #[.pointer (some ⟨k1, 0, none⟩), .pointer (some ⟨k2, 0, none⟩), .pointer (some ⟨k3, 0, none⟩)]) := hm2.cell ey cyH.out
        have q0 : U2.cell? ⟨U1.heap.size, 0, none⟩ = some (.string x.u) := tw.mv.cell (by show ¬ U1.heap.size = l1; omega) (cell_at rfl rfl)
        have q1 : U2.cell? ⟨U1.heap.size, 1, none⟩ = some (.string x.w) := tw.mv.cell (by show ¬ U1.heap.size = l1; omega) (cell_at rfl rfl)
        have q2 : U2.cell? ⟨U1.heap.size, 2, none⟩ = some (.int .i64 x.t) := tw.mv.cell (by show ¬ U1.heap.size = l1; omega) (cell_at rfl rfl)
        have hmt := hidP (hYH.out x rest E2 U2 hi2)
        clear hi hm hi2 hm2
        gi_wp2_with fail
        refine ⟨trivial, (CallsIn.inRound l1 (callsIn_wide.2 hmt.out)).mono ?_⟩
        rintro e U3 ⟨rfl, m3, E3, g3, hj3⟩
        gi_wp2_with fail
        exact ⟨m3, E3, g3, hj3⟩
      case done =>
        intro D E2 U3 hD hK hnD hm hg hi
        gi_wp2
        refine ⟨by simp, .inl ⟨_, _, rfl, run_takeDeferred hK, ?_⟩⟩
        exact ⟨_, results_none rfl _ _ _, rfl, (mVH.out.trans' hm).put_new (by omega) _, E2, hg.mono sU, hJH.out.keep _ _ _ _ hi (.put ⟨hnD, by omega⟩ _)⟩
      case stop =>
        intro D c E2 U3 hD hK hnD hm hg h
        exact h.elim
    · obtain ⟨W4, hW4⟩ : ∃ W4, W'.alloc (.cells #[.string d.u, .string d.w] 82) = W4 := ⟨_, rfl⟩
      obtain ⟨M, hM⟩ : ∃ M, W'.heap.size = M := ⟨_, rfl⟩
      have b4 : Below W'.heap.size W' W4 := by rw [← hW4]; exact (Below.refl _ _).alloc (Nat.le_refl _) _
      have t0 : W4.cell? ⟨M, 0, none⟩ = some (.string d.u) := by rw [← hW4]; exact cell_at hM rfl
      have t1 : W4.cell? ⟨M, 1, none⟩ = some (.string d.w) := by rw [← hW4]; exact cell_at hM rfl
      have hlq : N + 1 < W'.heap.size := by
        obtain ⟨_, _, _, _, qu, _⟩ := hD'
        exact qu.lt.1 (N + 1) (by obtain ⟨_, _, _, _, _, _, _, _, _, a6⟩ := qu; exact (a6 _).2 (.inl rfl))
      have hD4 := hD'.mv b4 (by omega)
      have cbn4 : W4.cell? ⟨bn, 0, none⟩ = some (.int .i64 now) := by
        obtain ⟨_, _, _, _, _, _, _, _, _, bw, _⟩ := hD4
        exact bcell bw (by have := cell_lt cbnH.out; have := hNH.out; simp only at *; omega) cbn1.out
      have hnx' : (Instr.next (.pointer (some ⟨r, 0, none⟩)) false 0).run Tryz.prog wr = .ok (.tuple #[.bool true, .agg #[.string d.u, .string d.w], .int .i64 d.t]) W' := hnx
      have hen' : (Instr.entry (.pointer (some ⟨r, 0, none⟩))).run Tryz.prog W' = .ok (.tuple #[.agg #[.string d.u, .string d.w], .int .i64 d.t]) W' := hen
      have hms4 : ∀ W5 left2 cnt2, DL now T mv (N + 1) W1 (N + 1) r left2 (fun x => left2 (eT x.k) = false) cnt2 cnt2 W5 → cnt2 = cnt' → YtjcdjkfnmobhkaaGreat.mr r mv W5 < YtjcdjkfnmobhkaaGreat.mr r mv wr := fun W5 left2 cnt2 h5 e => by
        obtain ⟨_, _, _, _, _, _, _, rg, _⟩ := h5
        rw [rg.mr, hms.out, e]; exact hlt
      have hms4H := hidP hms4
      by_cases hdt : d.t ≤ now
      · have hP := hidP (hD4.push hd hdt hl hl0 hTlH.out hvH.out (Nat.le_refl _))
        clear hD hD' hD4 hl hl0 hmv hms4 hnx hen b4 hlq hsz
        gi_wp2_with (rw [hW4])
        refine ⟨trivial, (callsIn_wide.2 hP.out).mono ?_⟩
        rintro e W5 ⟨rfl, hD5, _⟩
        have hD5H := hidP hD5
        clear hD5 hP
        gi_wp2_with fail
        exact ⟨⟨_, cnt', hD5H⟩, hms4H.out W5 _ cnt' hD5H.out rfl⟩
      · have hD5H := hidP (hD4.skip hdt hl)
        clear hD hD' hD4 hl hl0 hmv hms4 hnx hen b4 hlq hsz
        gi_wp2_with (rw [hW4])
        exact ⟨⟨_, cnt', hD5H⟩, hms4H.out W4 _ cnt' hD5H.out rfl⟩
end Go.Proofs.YtjcdjkfnmobhkaaGreat
