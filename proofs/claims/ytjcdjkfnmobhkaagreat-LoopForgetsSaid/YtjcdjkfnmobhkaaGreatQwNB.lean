/- Drop. -/
import Derived.Test.YtjcdjkfnmobhkaaGreatBg
namespace Go.Proofs.YtjcdjkfnmobhkaaGreat.Qw
open Go.RowKit Go.Shelf Go.Lib
attribute [local go_sem] Oper.semAt_some
/-- How far Drop has come: what is kept. -/
def KI (p : El → Bool) (out : List Rec) (sb bm br : Nat) (mv rv : Value) (w0 : World) (rest : List Rec) (E : Nat → Prop) (W : World) : Prop :=
  ∃ kv kept done, done ++ rest = out ∧ kept.map (fun x => (x.v, x.t)) = (done.map fun x => (x.v, x.t)).filter (fun y => !p y.1) ∧ (∀ x ∈ kept, x.p = none) ∧ (∀ k, E k ↔ (k = sb ∨ nbk kv = some k)) ∧ Cl sb kv W ∧ SV W kv kept ∧ nbk kv ≠ some sb ∧ (∀ k, nbk kv = some k → w0.heap.size < k) ∧ W.cell? ⟨bm, 0, none⟩ = some mv ∧ W.cell? ⟨br, 0, none⟩ = some rv
theorem KI.ter {p : El → Bool} {out : List Rec} {sb bm br : Nat} {mv rv : Value} {w0 : World} {B : Nat} (h1 : bm < B) (h2 : br < B) : Ter B (KI p out sb bm br mv rv w0) :=
  ⟨fun s E W V h m => by
    obtain ⟨kv, kept, done, a1, a2, a3, a4, a5, a6, a7, a8, a9, a10⟩ := h
    exact ⟨kv, kept, done, a1, a2, a3, a4, a5.mv m (fun f => f.1 ((a4 sb).2 (.inl rfl))), a6.mv m (fun k hk f => f.1 ((a4 k).2 (.inr hk))), a7, a8, m.cell (a := ⟨bm, 0, none⟩) (fun f => by have := f.2; dsimp only at this; omega) a9, m.cell (a := ⟨br, 0, none⟩) (fun f => by have := f.2; dsimp only at this; omega) a10⟩, fun s E W h k hk => by
    obtain ⟨kv, kept, done, a1, a2, a3, a4, a5, a6, _⟩ := h
    rcases (a4 k).1 hk with rfl | hk
    · exact a5.lt
    · exact a6.lt hk⟩
set_option maxRecDepth 100000 in
set_option maxHeartbeats 1000000 in
theorem treesf_any (q : Nat) (w : World) : Calls Tryz.prog 58 #[qp q] w fun e V => e = .returned (.func (.func 75) #[] #[.pointer (some ⟨w.heap.size, 0, none⟩)]) ∧ V = w.alloc (.cells #[qp q] 74) := by
  unfold qp
  go_enter Tryz.func58, Tryz.ntmps58
  go_wp2_with fail
  go_ret
  exact ⟨rfl, rfl⟩
def nilT (kept : List Rec) : List (Tr El) := kept.map fun x => ⟨x.v, x.t, .nil⟩
theorem RF.nils {w : World} {B : Nat → Prop} : ∀ kept : List Rec, (∀ x ∈ kept, x.p = none) → RF w B kept (nilT kept)
  | [], _ => trivial
  | x :: kept, h => ⟨⟨rfl, rfl, h x (List.mem_cons_self ..)⟩, RF.nils kept fun y hy => h y (List.mem_cons_of_mem _ hy)⟩
theorem nilT_k {kept : List Rec} : ∀ x ∈ nilT kept, x.k = .nil := fun x hx => by
  obtain ⟨y, _, rfl⟩ := List.mem_map.1 hx
  rfl
theorem nilT_map (kept : List Rec) : (nilT kept).map (fun x => (x.v, x.t)) = kept.map fun x => (x.v, x.t) := by
  unfold nilT
  rw [List.map_map]; rfl
theorem elsL_nils : ∀ T : List (Tr El), (∀ x ∈ T, x.k = .nil) → elsL T = T.map fun x => (x.v, x.t)
  | [], _ => rfl
  | y :: T, h => by
    rw [elsL_cons, h y (List.mem_cons_self ..), elsL_nils T (fun z hz => h z (List.mem_cons_of_mem _ hz))]; rfl
theorem drop_QI {key : El → Int} {p : El → Bool} {F F' : List (Tr El)} {L' : List (El × Int)} {n : Int} {kept : List Rec} (a2 : QI key F L' n) (hk : (kept.map fun x => (x.v, x.t)).Perm (L'.filter fun y => !p y.1)) (fp : F'.Perm (leastL key (nilT kept).length (nilT kept))) (fs : F'.Pairwise fun a b => a.t ≤ b.t) : QI key F' (L'.filter fun y => !p y.1) n := by
  have so := a2.so.filter (fun y => !p y.1)
  obtain ⟨m2, h2⟩ := leastL_fl key (nilT kept).length (nilT kept) (by omega) (fun z hz => by rw [nilT_k z hz]; trivial)
  have hl : ((nilT kept).map fun x => (x.v, x.t)).Perm (L'.filter fun y => !p y.1) := by rw [nilT_map]; exact hk
  have hp2 : (elsL F').Perm (L'.filter fun y => !p y.1) := (elsL_perm fp).trans ((leastL_els _ _ _).trans (by rw [elsL_nils _ nilT_k]; exact hl))
  exact QI.anew (N := (nilT kept).length) (by omega) nilT_k fp (strict_of hp2 so (h2.sub fun z hz => fp.mem_iff.1 hz) fs) hl so (fun y hy => a2.lt y ((List.mem_filter.1 hy).1))
set_option maxRecDepth 100000 in
set_option maxHeartbeats 4000000 in
theorem drop_any {nb : NB} {key : El → Int} {w : World} {q : Nat} {E B : Nat → Prop} {L : List El} {n : Nat} (hB : L ≠ [] → Bf nb key) (h : Qu nb key w q E B L n) {mf br : Nat} {rv : Value} {p : El → Bool} (cr : w.cell? ⟨br, 0, none⟩ = some rv) (eg : ∀ args w, (callFunc mf args).run Tryz.prog w = .ok (.enter mf args) w) (hM : ∀ x W, W.cell? ⟨br, 0, none⟩ = some rv → Calls Tryz.prog mf #[ev x, .pointer (some ⟨br, 0, none⟩)] W fun e V => e = .returned (.bool (p x)) ∧ Below W.heap.size W V) :
    Calls Tryz.prog 39 #[qp q, .func (.func mf) #[] #[.pointer (some ⟨br, 0, none⟩)]] w fun e V => e = .returned (.int .i64 ((L.length : Int) - (L.filter fun x => !p x).length)) ∧ Qg nb key w q E B (L.filter fun x => !p x) n V := by
  have hq0 := hidP h
  obtain ⟨v, xs, F, L', a1, a2, a3, a4, a5, a6⟩ := h
  obtain ⟨out, ho, hpm⟩ := Ot.of _ _ _ a1.rf (Nat.le_refl _)
  obtain ⟨bm, hbm⟩ : ∃ bm, w.heap.size = bm := ⟨_, rfl⟩
  obtain ⟨W1, hW1⟩ : ∃ W1, w.alloc (.cells #[.func (.func mf) #[] #[.pointer (some ⟨br, 0, none⟩)]] 89) = W1 := ⟨_, rfl⟩
  have b1 : Below w.heap.size w W1 := by rw [← hW1]; exact (Below.refl _ _).alloc (Nat.le_refl _) _
  have h1s : W1.heap.size = bm + 1 := by rw [← hW1]; simp [hbm]
  obtain ⟨W2, hW2⟩ : ∃ W2, W1.alloc (.cells #[.slice none 0 0] 68) = W2 := ⟨_, rfl⟩
  have b2 : Below W1.heap.size W1 W2 := by rw [← hW2]; exact (Below.refl _ _).alloc (Nat.le_refl _) _
  have h2s : W2.heap.size = bm + 2 := by rw [← hW2]; simp [h1s]
  obtain ⟨W3, hW3⟩ : ∃ W3, W2.alloc (.cells #[qp q] 74) = W3 := ⟨_, rfl⟩
  have b3 : Below W2.heap.size W2 W3 := by rw [← hW3]; exact (Below.refl _ _).alloc (Nat.le_refl _) _
  have h3s : W3.heap.size = bm + 3 := by rw [← hW3]; simp [h2s]
  have b03 : Below w.heap.size w W3 := (b1.trans (b2.mono b1.size)).trans (b3.mono (Nat.le_trans b1.size b2.size))
  have Q3 := a1.below b03
  have c3 : W3.cell? ⟨bm + 2, 0, none⟩ = some (qp q) := by rw [← hW3]; exact cell_at h2s rfl
  have clk : Cl (bm + 1) (.slice none 0 0) W3 := Cl.mv (E := fun _ => False) ⟨by rw [← hW2]; exact cell_at h1s rfl, by rw [← hW2]; exact froz_new h1s⟩ (Mv.below b3) (fun h => h)
  have cm : W3.cell? ⟨bm, 0, none⟩ = some (.func (.func mf) #[] #[.pointer (some ⟨br, 0, none⟩)]) := bcell b3 (by omega) (bcell b2 (by omega) (by rw [← hW1]; exact cell_at hbm rfl))
  have lbr : br < bm := by rw [← hbm]; exact cell_lt cr
  have cr3 : W3.cell? ⟨br, 0, none⟩ = some rv := bcell b03 (by omega) cr
  have hol : out.length = L.length := by
    have := hpm.length_eq
    rw [List.length_map] at this
    rw [this, a2.pm.length_eq, ← a3, List.length_map]
  have ho3 := Ot.mv (F := fun _ => False) (Mv.below b03) (fun _ _ h => h) _ _ ho
  have lq : q < bm := by rw [← hbm]; exact a1.lt
  have hlv : ∀ k, nbk v = some k → k < bm := fun k hk => by rw [← hbm]; exact a1.sv.lt hk
  have row := hidP (trees_row q (bm + 2) v xs out B (fun k => k = bm + 1) W3 c3 Q3.c1 Q3.sv ho3 (by omega) (by omega) (fun k hk e => by have := hlv k hk; omega) (fun k hk e => by have := a1.lo k hk; omega) (fun k hk => by have := a1.lo k hk; omega) (by omega))
  have tI : Ter W3.heap.size (KI p out (bm + 1) bm br (.func (.func mf) #[] #[.pointer (some ⟨br, 0, none⟩)]) rv w) := KI.ter (by omega) (by omega)
  have hI : Hid (KI p out (bm + 1) bm br (.func (.func mf) #[] #[.pointer (some ⟨br, 0, none⟩)]) rv w out (fun k => k = bm + 1) W3) := ⟨.slice none 0 0, [], [], rfl, rfl, (fun _ h => by cases h), (fun k => ⟨.inl, fun h => h.elim id (fun e => by cases e)⟩), clk, .inl ⟨rfl, rfl⟩, (fun e => by cases e), (fun k e => by cases e), cm, cr3⟩
  have hTf : Hid (Calls Tryz.prog 58 #[qp q] W2 fun e V => e = .returned (.func (.func 75) #[] #[.pointer (some ⟨bm + 2, 0, none⟩)]) ∧ V = W3) := by
    have := treesf_any q W2
    rw [hW3, h2s] at this
    exact this
  have hMH := hidP hM
  unfold qp at *
  refine (callsIn_wide (n := 5)).1 ?_
  refine callsIn_of_wp_marks Tryz.func39 rfl trivial ?_ rfl
  simp only [Tryz.ntmps39, List.size_toArray, List.length_cons, List.length_nil, Nat.reduceAdd, Nat.reduceSub, Array.replicate_succ, Array.replicate_zero, List.push_toArray, List.append_toArray, List.nil_append, List.cons_append]
  gi_wp2_with (first | rw [hW1] | rw [hW2])
  refine ⟨trivial, (callsIn_wide.2 hTf.out).mono ?_⟩
  rintro e V ⟨rfl, rfl⟩
  gi_wp2_with fail
  refine loop_out (gf := 75) (lb := #[.pointer (some ⟨bm + 2, 0, none⟩)]) rfl (enters_of Tryz.func75 (by kernel_rfl) rfl) row.out (fun _ => rfl) (KI p out (bm + 1) bm br (.func (.func mf) #[] #[.pointer (some ⟨br, 0, none⟩)]) rv w) AX tI (AX.ter _) hI.out ?round ?done ?stop
  case round =>
    rintro l9 hl9 x rest E2 U hi hm hg hEl hrec
    have hltH : Hid (l9 < U.heap.size) := by obtain ⟨r, hr⟩ := hrec; exact (Array.getElem?_eq_some_iff.1 hr).1
    clear hrec
    simp only [encR, Rec.val]
    gi_wp2_with fail
    refine ⟨⟨Mv.alloc _ _ _, Below.heap_alloc _ _ _ hltH.out⟩, fun U2 tw => ?_⟩
    obtain ⟨hi2, hm2⟩ := tw.go tI hi (Mv.alloc _ _ _) hm (Nat.le_refl _) hl9 hEl
    have bx : ∀ j u, #[vc0 x.v, vc1 x.v, vc2 x.v, vc3 x.v, vc4 x.v, vc5 x.v, Value.int .i64 x.t, ptrV x.p][j]? = some u → U2.cell? ⟨U.heap.size, j, none⟩ = some u := fun j u hj => tw.mv.cell (a := ⟨U.heap.size, j, none⟩) (by have := hltH.out; show ¬ U.heap.size = l9; omega) (cell_at rfl hj)
    have hU2 : Hid (U2.heap.size = U.heap.size + 1) := by show _ = _; have := tw.size; simpa using this
    obtain ⟨kv, kept, done, e1, e2, e3, e4, e5, e6, e7, e8, e9, e10⟩ := hi2
    have x0 : (U2.cell? ⟨U.heap.size, 0, none⟩ = some (vc0 x.v) ∧ U2.cell? ⟨U.heap.size, 1, none⟩ = some (vc1 x.v) ∧ U2.cell? ⟨U.heap.size, 2, none⟩ = some (vc2 x.v) ∧ U2.cell? ⟨U.heap.size, 3, none⟩ = some (vc3 x.v) ∧ U2.cell? ⟨U.heap.size, 4, none⟩ = some (vc4 x.v) ∧ U2.cell? ⟨U.heap.size, 5, none⟩ = some (vc5 x.v)) := ⟨bx 0 _ rfl, bx 1 _ rfl, bx 2 _ rfl, bx 3 _ rfl, bx 4 _ rfl, bx 5 _ rfl⟩
    have hmt := hidP (hMH.out x.v U2 e10)
    gi_wp2_with fail
    refine ⟨trivial, (CallsIn.inRound l9 (callsIn_wide.2 hmt.out)).mono ?_⟩
    rintro e U3 ⟨rfl, hb3⟩
    have m3 : ∀ F, Mv F U2 U3 := fun F => Mv.below hb3
    have lU : U.heap.size < U2.heap.size := by have := hU2.out; omega
    have y0 : (U3.cell? ⟨U.heap.size, 0, none⟩ = some (vc0 x.v) ∧ U3.cell? ⟨U.heap.size, 1, none⟩ = some (vc1 x.v) ∧ U3.cell? ⟨U.heap.size, 2, none⟩ = some (vc2 x.v) ∧ U3.cell? ⟨U.heap.size, 3, none⟩ = some (vc3 x.v) ∧ U3.cell? ⟨U.heap.size, 4, none⟩ = some (vc4 x.v) ∧ U3.cell? ⟨U.heap.size, 5, none⟩ = some (vc5 x.v)) := ⟨bcell hb3 lU (bx 0 _ rfl), bcell hb3 lU (bx 1 _ rfl), bcell hb3 lU (bx 2 _ rfl), bcell hb3 lU (bx 3 _ rfl), bcell hb3 lU (bx 4 _ rfl), bcell hb3 lU (bx 5 _ rfl)⟩
    have y1 := bcell hb3 lU (bx 6 _ rfl)
    have f5 := e5.mv (m3 fun _ => False) (fun h => h)
    have f6 := e6.mv (m3 fun _ => False) (fun _ _ h => h)
    have f9 := (m3 fun _ => False).cell (a := ⟨bm, 0, none⟩) (fun h => h) e9
    have f10 := (m3 fun _ => False).cell (a := ⟨br, 0, none⟩) (fun h => h) e10
    have hsz : w.heap.size ≤ U3.heap.size := by have := hb3.size; have := f5.lt; omega
    cases hp : p x.v with
    | true =>
      have fin : Hid (Mv E2 U2 U3 ∧ ∃ E', Gr E2 U2 E' ∧ KI p out (bm + 1) bm br (.func (.func mf) #[] #[.pointer (some ⟨br, 0, none⟩)]) rv w rest E' U3) := by
        refine ⟨m3 _, E2, Gr.refl _ _, kv, kept, done ++ [x], by rw [List.append_assoc]; exact e1, ?_, e3, e4, f5, f6, e7, e8, f9, f10⟩
        rw [e2, List.map_append, List.filter_append]
        simp [hp]
      clear e1 e2 e3 e4 e5 e6 e7 e8 e9 e10 f5 f6 f9 f10 y0 y1 x0 bx m3 hm2 hi hm tw hmt
      gi_wp2_with fail
      exact fin.out
    | false =>
      obtain ⟨A, hA⟩ : ∃ A, U3.alloc (.cells #[vc0 x.v, vc1 x.v, vc2 x.v, vc3 x.v, vc4 x.v, vc5 x.v, .int .i64 x.t, .pointer none] 104) = A := ⟨_, rfl⟩
      have mA : ∀ F, Mv F U3 A := fun F => by rw [← hA]; exact Mv.alloc _ _ _
      have svA := f6.mv (mA fun _ => False) (fun _ _ h => h)
      have raA : RA A U3.heap.size 0 [⟨x.v, x.t, none⟩] := by
        intro j u hj
        rw [Nat.zero_add, ← hA]
        refine cell_at rfl ?_
        match j, hj with
        | 0, hj => exact hj
        | 1, hj => exact hj
        | 2, hj => exact hj
        | 3, hj => exact hj
        | 4, hj => exact hj
        | 5, hj => exact hj
        | 6, hj => exact hj
        | 7, hj => exact hj
        | j + 8, hj => simp [flat] at hj
      have hkl : kept.length ≤ 200000 := by
        have z := congrArg List.length e2
        rw [List.length_map] at z
        have z2 := List.length_filter_le (fun y : El × Int => !p y.1) (done.map fun x => (x.v, x.t))
        rw [List.length_map] at z2
        have z3 := congrArg List.length e1
        rw [List.length_append] at z3
        omega
      obtain ⟨v', A2, hrun, sv', m2, at2⟩ := svA.append raA (by omega) 1
      obtain ⟨A3, hA3⟩ : ∃ A3, A2.setCell ⟨bm + 1, 0, none⟩ v' = A3 := ⟨_, rfl⟩
      have n2 : ¬ nbk kv = some (bm + 1) := e7
      have cA2 := (f5.mv (mA fun _ => False) (fun h => h)).mv m2 n2
      have clA3 : Cl (bm + 1) v' A3 := by rw [← hA3]; exact cA2.set v'
      have mS : Mv (fun k => k = bm + 1) A2 A3 := by rw [← hA3]; exact Mv.set1 (E := fun k => k = bm + 1) rfl _
      have szA : A.heap.size = U3.heap.size + 1 := by rw [← hA]; simp
      have hnU : bm + 1 < U2.heap.size := e5.lt
      have sz3 := hb3.size
      have n3 : nbk v' ≠ some (bm + 1) := fun e => by
        rcases at2 with q | ⟨k, q, hk⟩
        · exact e7 (q ▸ e)
        · rw [e] at q; injection q with q; omega
      have nb9 : ∀ k, k < w.heap.size ∨ k = bm → ¬ nbk kv = some k ∧ ¬ k = bm + 1 := fun k hk => ⟨fun e => by
        rcases hk with hk | hk
        · have := e8 k e; omega
        · have := e8 k e; omega, by omega⟩
      have fin : Hid (Mv E2 U2 A3 ∧ ∃ E', Gr E2 U2 E' ∧ KI p out (bm + 1) bm br (.func (.func mf) #[] #[.pointer (some ⟨br, 0, none⟩)]) rv w rest E' A3) := by
        refine ⟨(((m3 E2).trans' ((mA E2).trans' (m2.mono fun k _ hk => (e4 k).2 (.inr hk)))).trans' (mS.mono fun k _ hk => (e4 k).2 (.inl hk))), fun k => k = bm + 1 ∨ nbk v' = some k, fun k hk => ?_, v', kept ++ [⟨x.v, x.t, none⟩], done ++ [x], by rw [List.append_assoc]; exact e1, ?_, ?_, fun _ => Iff.rfl, clA3, sv'.mv mS (fun k hk e => n3 (e ▸ hk)), n3, fun k hk => ?_, ?_, ?_⟩
        · rcases hk with hk | hk
          · exact .inl ((e4 k).2 (.inl hk))
          · rcases at2 with q | ⟨k', q, hk'⟩
            · exact .inl ((e4 k).2 (.inr (by rw [← q]; exact hk)))
            · rw [hk] at q; injection q with q; exact .inr (by omega)
        · rw [List.map_append, e2, List.map_append, List.filter_append]
          simp [hp]
        · intro y hy
          rcases List.mem_append.1 hy with hy | hy
          · exact e3 y hy
          · rw [List.mem_singleton.1 hy]
        · rcases at2 with q | ⟨k', q, hk'⟩
          · exact e8 k (by rw [← q]; exact hk)
          · rw [hk] at q; injection q with q; omega
        · exact mS.cell (a := ⟨bm, 0, none⟩) (nb9 bm (.inr rfl)).2 (m2.cell (a := ⟨bm, 0, none⟩) (nb9 bm (.inr rfl)).1 ((mA fun _ => False).cell (a := ⟨bm, 0, none⟩) (fun h => h) f9))
        · exact mS.cell (a := ⟨br, 0, none⟩) (nb9 br (.inl (by omega))).2 (m2.cell (a := ⟨br, 0, none⟩) (nb9 br (.inl (by omega))).1 ((mA fun _ => False).cell (a := ⟨br, 0, none⟩) (fun h => h) f10))
      obtain ⟨pv, cvv, rfl⟩ := f6.shape
      obtain ⟨pv', cv', rfl⟩ := sv'.shape
      have ec := f5.c
      have ef := cA2.f
      have ec2 := cA2.c
      obtain ⟨nd, hnd⟩ : ∃ nd, kept.length = nd := ⟨_, rfl⟩
      obtain ⟨nd', hnd'⟩ : ∃ nd', (kept ++ [(⟨x.v, x.t, none⟩ : Rec)]).length = nd' := ⟨_, rfl⟩
      rw [hnd] at hrun ec ec2
      rw [hnd'] at hrun hA3
      clear sv' m2 at2 e1 e2 e3 e4 e5 e6 e7 e8 e9 e10 f5 f6 n2 clA3 mS n3 svA raA mA hm2 hi hm tw cA2 hnd hnd' hmt bx m3 f9 f10 hkl
      gi_wp2_with (first | rw [hA] | rw [hA3] | (gi_at_builtin; refine wpListIn_append_run rfl _ _ 68 rfl _ _ _ _ rfl rfl hrun ?_))
      exact fin.out
  case done =>
    rintro D E2 U hD hK hnD hm hg ⟨kv, kept, done, e1, e2, e3, e4, e5, e6, e7, e8, e9, e10⟩
    rw [List.append_nil] at e1
    subst e1
    have hk : (kept.map fun x => (x.v, x.t)).Perm (L'.filter fun y => !p y.1) := by rw [e2]; exact (hpm.trans a2.pm).filter _
    have hfl : (L'.filter fun y => !p y.1).map (·.1) = L.filter fun x => !p x := by rw [← a3, List.filter_map]; rfl
    have hkl : kept.length = (L.filter fun x => !p x).length := by
      have z := hk.length_eq
      rw [List.length_map] at z
      rw [z, ← hfl, List.length_map]
    obtain ⟨cn, hcn⟩ : ∃ cn, L.length = cn := ⟨_, rfl⟩
    obtain ⟨kn, hkn⟩ : ∃ kn, kept.length = kn := ⟨_, rfl⟩
    have hle : kn ≤ cn := by rw [← hkn, hkl, ← hcn]; exact List.length_filter_le _ _
    have QU := Q3.mv hm (show ¬ q = bm + 1 by omega) (fun k hk e => by have := hlv k hk; omega) (fun k hk e => by have := a1.lo k hk; omega)
    obtain ⟨pk, ck, hkv⟩ := e6.shape
    rw [hkn] at hkv
    have cq2 : U.drew.cell? ⟨q, 2, none⟩ = some (.int .i64 (cn : Int)) := by have := QU.c2; rw [hcn] at this; exact this
    have ckk : U.drew.cell? ⟨bm + 1, 0, none⟩ = some (.slice pk kn ck) := by rw [← hkv]; exact e5.c
    have hcI : (cn : Int) ≤ 200000 := by omega
    have hleI : (kn : Int) ≤ (cn : Int) := by omega
    have lD : D < U.heap.size := (Array.getElem?_eq_some_iff.1 hK).1
    have bU : Below w.heap.size w U := b03.trans (hm.toBelow b03.size (fun k hk e => by omega))
    by_cases hlt : kn < cn
    · have h0 : (0 : Int) < (cn : Int) - (kn : Int) := by omega
      obtain ⟨U3, hU3⟩ : ∃ U3, ((U.setCell ⟨q, 1, none⟩ (.slice none 0 0)).setCell ⟨q, 2, none⟩ (.int .i64 (kn : Int))).drew.drew = U3 := ⟨_, rfl⟩
      have s1 : (U.setCell ⟨q, 1, none⟩ (.slice none 0 0)).drew.drew.cell? ⟨q, 2, none⟩ = some (.int .i64 (cn : Int)) := (World.cell?_setCell_other U _ _ _ (by simp)).trans cq2
      have s3 : (U.setCell ⟨q, 1, none⟩ (.slice none 0 0)).drew.drew.cell? ⟨bm + 1, 0, none⟩ = some (.slice pk kn ck) := (World.cell?_setCell_other U _ _ _ (by simp)).trans ckk
      have s2 : (U.setCell ⟨q, 1, none⟩ (.slice none 0 0)).drew.drew.frozen? ⟨q, 2, none⟩ = false := ((Cv.one U q 1 (.slice none 0 0)).fr q 2 QU.lt).trans QU.f2
      have cq1 : U.drew.drew.cell? ⟨q, 1, none⟩ = some v := QU.c1
      have cq2' : U.drew.drew.cell? ⟨q, 2, none⟩ = some (.int .i64 (cn : Int)) := cq2
      have ckk' : U.drew.drew.cell? ⟨bm + 1, 0, none⟩ = some (.slice pk kn ck) := ckk
      have fq1 : U.drew.drew.frozen? ⟨q, 1, none⟩ = false := QU.f1
      have fq2 : U.drew.drew.frozen? ⟨q, 2, none⟩ = false := QU.f2
      have k3 : Cv (fun k j => k = q ∧ 1 ≤ j ∧ j < 1 + 2) U.drew.drew U3 := by
        have := Cv.cells U.drew.drew q 1 [.slice none 0 0, .int .i64 (kn : Int)]
        rw [← hU3]; exact this
      have mq : Mv (fun k => k = q) U U3 := ((Mv.drew _ _).trans' (Mv.drew _ _)).trans' (k3.mv.mono fun k _ s => by obtain ⟨j, s, _⟩ := s; exact s)
      have ck3 : U3.cell? ⟨bm + 1, 0, none⟩ = some (.slice pk kn ck) := k3.cell (k := bm + 1) (j := 0) (by omega) ckk'
      have d1 : U3.cell? ⟨q, 1, none⟩ = some (.slice none 0 0) := by rw [← hU3]; exact (World.cell?_setCell_other _ _ _ _ (by simp)).trans (World.cell?_setCell_same _ _ _ cq1)
      have d2 : U3.cell? ⟨q, 2, none⟩ = some (.int .i64 (kn : Int)) := by rw [← hU3]; exact World.cell?_setCell_same _ _ _ ((World.cell?_setCell_other _ _ _ _ (by simp)).trans cq2')
      have lqU : q < U.drew.drew.heap.size := QU.lt
      have nBq : ∀ k, B k → k < bm := fun k hk => by have := a1.lo k hk; omega
      have Qz : Qm nb U3 q B (.slice none 0 0) [] [] (kn : Int) n := ⟨k3.cell (k := q) (j := 0) (by omega) QU.c0, d1, d2, k3.cell (k := q) (j := 3) (by omega) QU.c3, (k3.fr q 1 lqU).trans QU.f1, (k3.fr q 2 lqU).trans QU.f2, (k3.fr q 3 lqU).trans QU.f3, .inl ⟨rfl, rfl⟩, trivial, (fun e => by cases e), (fun k hk => ⟨(QU.nB k hk).1, fun e => by cases e⟩), (fun k hk => by have := nBq k hk; have := mq.size; omega), by simp, (show Xt U.drew.drew q nb.X from QU.xt).cv k3 (fun j hj s => by have := s.2.2; omega) lqU⟩
      have nkq : nbk kv ≠ some q := fun e => by have := e8 q e; omega
      have sv3 := e6.mv mq (fun k hk e => nkq (e ▸ hk))
      have hfr := hidP (free_any (hB (fun e => by rw [e, List.length_nil] at hcn; omega)) Qz (m := 0) (T := nilT kept) Fl.nil (fun _ _ => .inr rfl) (fun x hx => by rw [nilT_k x hx]; trivial) sv3 (RF.nils kept e3) (by omega) nkq (fun k hk => ⟨(fun e => by cases e), fun hk' => by have := e8 k hk; have := nBq k hk'; omega⟩))
      have hEnd : Hid (∀ V4, FP nb key U3 q B (.slice none 0 0) kv [] (nilT kept) (kn : Int) n (.returned (.tuple #[])) V4 → V4.heap[D]? = some (.deferred (some [])) ∧ Qg nb key w q E B (L.filter fun x => !p x) n (V4.putObj D (.deferred none))) := by
        intro V4 hF
        obtain ⟨_, F', ⟨v', xs', B', Q6, m6, g6, at6⟩, hF'⟩ := hF
        have nD : ¬ (D = q ∨ nbk (.slice none 0 0) = some D ∨ nbk kv = some D) := by
          rintro (e | e | e)
          · omega
          · cases e
          · exact hnD ((e4 D).2 (.inr e))
        have lD3 : D < U3.heap.size := by have := mq.size; omega
        have hb4 : V4.heap[D]? = some (.deferred (some [])) := (m6.block D lD3 nD).trans ((mq.block D lD (by omega)).trans hK)
        refine ⟨hb4, ?_⟩
        have hF2 := hF'.resolve_left (fun z => z.1 rfl)
        have hQI := drop_QI a2 hk hF2.2.1 hF2.2.2
        have nv' : ∀ k, nbk v' = some k → U3.heap.size ≤ k := fun k e => by
          rcases at6 with z | ⟨k', z, hk'⟩
          · rw [e] at z; cases z
          · rw [e] at z; injection z with z; omega
        have sz3 := mq.size
        have szU := bU.size
        have mP : Mv (fun k => k = D) V4 (V4.putObj D (.deferred none)) := Mv.put (E := fun k => k = D) rfl _
        refine ⟨fun k => k = q ∨ nbk v' = some k, B', ⟨v', xs', F', _, ?_, hQI, hfl, by rw [← hkl]; omega, a5, fun _ => Iff.rfl⟩, ?_, ?_, ?_⟩
        · have := Q6.mv mP (show ¬ q = D by omega) (fun k hk e => by have := nv' k hk; omega) (fun k hk e => by
            rcases g6 k hk with z | z
            · have := nBq k z; omega
            · omega)
          rw [← hkl, hkn]
          exact this
        · refine (((Mv.below bU).trans (E' := fun k => k = q) (fun k e => .inl ((a6 k).2 (.inl e))) mq).trans (E' := fun k => k = q ∨ nbk (.slice none 0 0) = some k ∨ nbk kv = some k) (fun k hk => ?_) m6).trans (E' := fun k => k = D) (fun k e => .inr (by omega)) mP
          rcases hk with e | e | e
          · exact .inl ((a6 k).2 (.inl e))
          · cases e
          · exact .inr (by have := e8 k e; omega)
        · intro k hk
          rcases hk with e | e
          · exact .inl ((a6 k).2 (.inl e))
          · exact .inr (by have := nv' k e; omega)
        · intro k hk
          exact (g6 k hk).imp id (fun z => by omega)
      rw [hkv] at hfr hEnd
      have hres : (L.filter fun x => !p x).length = kn := by rw [← hkl, hkn]
      clear Qz sv3 mq k3 QU e2 e3 e4 e5 e6 e7 e8 e9 e10 hI row d1 d2 hM
      gi_wp2_with fail
      gi_region
      gi_wp2_with fail
      gi_region
      gi_wp2_with fail
      refine ⟨trivial, (callsIn_wide.2 hfr.out).mono ?_⟩
      rintro e V4 hF4
      obtain rfl := hF4.1
      have fin := hidP (hEnd.out V4 hF4)
      clear hF4 hEnd hfr
      gi_wp2_with fail
      refine ⟨by simp, .inl ⟨_, _, rfl, run_takeDeferred fin.out.1, ?_⟩⟩
      refine ⟨_, by simp [results, Tryz.results39, go_sem]; rfl, ?_⟩
      rw [hres, hcn]
      exact ⟨rfl, fin.out.2⟩
    · have h0 : ¬ (0 : Int) < (cn : Int) - (kn : Int) := by omega
      have fin : Hid (Qg nb key w q E B (L.filter fun x => !p x) n (U.drew.putObj D (.deferred none))) := by
        have ef : (L.filter fun x => !p x) = L := List.filter_sublist.eq_of_length (by rw [← hkl, hkn, hcn]; omega)
        have bf : Below w.heap.size w (U.drew.putObj D (.deferred none)) := bU.drew.trans ((Mv.put (E := fun k => k = D) (W := U.drew) rfl _).toBelow bU.size (fun k hk e => by omega))
        rw [ef]
        exact ⟨E, B, hq0.out.mv (D := fun _ => False) (Mv.below bf) (fun _ _ h => h) (fun _ _ h => h), Mv.below bf, Gr.refl _ _, Gr.refl _ _⟩
      have hres : (L.filter fun x => !p x).length = kn := by rw [← hkl, hkn]
      have hKH := hidP (show U.drew.heap[D]? = some (.deferred (some [])) from hK)
      clear QU e2 e3 e4 e5 e6 e7 e8 e9 e10 hI row hK hM
      gi_wp2_with fail
      gi_region
      gi_wp2_with fail
      refine ⟨by simp, .inl ⟨_, _, rfl, run_takeDeferred hKH.out, ?_⟩⟩
      refine ⟨_, by simp [results, Tryz.results39, go_sem]; rfl, ?_⟩
      rw [hres, hcn]
      exact ⟨rfl, fin.out⟩
  case stop =>
    intro D c E2 U hD hK hnD hm hg h
    exact h.elim
end Go.Proofs.YtjcdjkfnmobhkaaGreat.Qw
