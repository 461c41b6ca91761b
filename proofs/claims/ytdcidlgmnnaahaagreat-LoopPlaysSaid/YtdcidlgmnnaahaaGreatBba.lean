import Derived.Test.YtdcidlgmnnaahaaGreatBal
import Derived.Test.YtdcidlgmnnaahaaGreatBaz
/- All as a row: the elements in order, for a taker that is a loop's round. -/
namespace Go.Proofs.YtdcidlgmnnaahaaGreat.Qw
open Go.RowKit Go.Shelf Go.Lib
attribute [local go_sem] Oper.semAt_some
def mq (q : Nat) (w : World) : Nat := match w.cell? ⟨q, 2, none⟩ with
  | some v => (intOf v).toNat
  | none => 0
theorem Qu.mq {nb : NB} {key : El → Int} {w : World} {q : Nat} {E B : Nat → Prop} {L : List El} {n : Nat} (h : Qu nb key w q E B L n) : Qw.mq q w = L.length := by
  obtain ⟨v, xs, F, L', a1, _⟩ := h
  unfold Qw.mq
  rw [a1.c2]
  simp [intOf]
def encE (x : El) : Array Value := #[ev x]
theorem AZ.takeY {nb : NB} {key : El → Int} {w : World} {D0 : Nat → Prop} {q n : Nat} {J : List El → (Nat → Prop) → World → Prop} {Jx : Unit → (Nat → Prop) → World → Prop} {l : Nat} (hT : Yi Tryz.prog l encE J Jx) {x : El} {rest : List El} {b : Nat} {v : El} {W : World} (h : AZ nb key w D0 q n J (x :: rest) rest b v W) :
    YieldAt Fence.wide 3 Tryz.prog l (encE x) W fun e V => (e = .returned (.bool true) ∧ AZ nb key w D0 q n J rest rest b v V) ∨ (e = .returned (.bool false) ∧ AE w D0 J (Jx ()) V) := by
  obtain ⟨D, E, B, ⟨u, j, h1, h2, h3, h4⟩, hv, lo, nD, nE, nB⟩ := h
  obtain ⟨fn, tmps, assign, body, hy, hR⟩ := hT x rest D W j
  refine ⟨fn, tmps, assign, body, hy, hR.mono ?_⟩
  rintro e V ⟨m, (⟨rfl, D', g, j'⟩ | ⟨rfl, D', g, j'⟩)⟩
  · obtain ⟨lE, lB⟩ := u.lt
    have lv := hv.lt
    refine .inl ⟨rfl, D', E, B, ⟨u.mv m (fun k hk => (h1 k hk).2) h2, j', fun k hk => ⟨(h1 k hk).1, fun d => ?_⟩, fun k hk d => ?_, h3.trans h4 m, h4.trans h3.size g⟩, hv.mv m nD, lo, fun d => ?_, nE, nB⟩
    · rcases g k d with s | s
      · exact (h1 k hk).2 s
      · have := lE k hk; omega
    · rcases g k d with s | s
      · exact h2 k hk s
      · have := lB k hk; omega
    · rcases g b d with s | s
      · exact nD s
      · omega
  · exact .inr ⟨rfl, h3.trans h4 m, D', h4.trans h3.size g, .inr j'⟩
theorem AZ.mq {nb : NB} {key : El → Int} {w : World} {D0 : Nat → Prop} {q n : Nat} {J : List El → (Nat → Prop) → World → Prop} {s rest : List El} {b : Nat} {v : El} {W : World} (h : AZ nb key w D0 q n J s rest b v W) : Qw.mq q W = rest.length := by
  obtain ⟨D, E, B, ⟨u, _⟩, _⟩ := h
  exact u.mq
theorem AS.mq {nb : NB} {key : El → Int} {w : World} {D0 : Nat → Prop} {q n : Nat} {J : List El → (Nat → Prop) → World → Prop} {s rest : List El} {W : World} (h : AS nb key w D0 q n J s rest W) : Qw.mq q W = rest.length := by
  obtain ⟨D, E, B, u, _⟩ := h
  exact u.mq
theorem AE.went {w : World} {D : Nat → Prop} {J : List El → (Nat → Prop) → World → Prop} {Jx : Unit → (Nat → Prop) → World → Prop} {V : World} (h : AE w D J (Jx ()) V) {v : Value} : Went J Jx D w (.returned v) V := by
  obtain ⟨m, E', g, h | h⟩ := h
  · exact ⟨⟨_, rfl⟩, m, .inl ⟨E', g, h⟩⟩
  · exact ⟨⟨_, rfl⟩, m, .inr ⟨E', g, h⟩⟩
set_option maxRecDepth 100000 in
set_option maxHeartbeats 4000000 in
theorem allq_row {nb : NB} {key : El → Int} (hB : Bf nb key) {q bl : Nat} {E0 B : Nat → Prop} {L : List El} {n : Nat} (E : Nat → Prop) (W : World) (h : Qu nb key W q E0 B L n) (hbl : W.cell? ⟨bl, 0, none⟩ = some (qp q)) (nbl : ¬ E bl) (n0 : ∀ k, E0 k → ¬ E k) (n1 : ∀ k, B k → ¬ E k) :
    Row Tryz.prog 74 #[.pointer (some ⟨bl, 0, none⟩)] encE L E W := by
  intro u J Jx E1 V m gr tJ tJx hY h0
  have hBz : Bf nb.z key := ⟨hB.fv, hB.eg, hB.ca⟩
  have d1 := m.cell (a := ⟨bl, 0, none⟩) nbl hbl
  have hV := h.mv m n0 n1
  have hD : ∀ k, B k → ¬ E1 k := fun k hk => gr.free (h.lt.2 k hk) (n1 k hk)
  have hTw : Hid (Calls Tryz.prog 75 #[qp q] V fun e V' => ∃ q', e = .returned (qp q') ∧ AS nb.z key V E1 q' n J L L V') := by
    refine (twin_any hB.fv hV).mono ?_
    rintro e V' ⟨q', E', rfl, u, hE, hb⟩
    have lD := tJ.low _ _ _ h0
    exact ⟨q', rfl, E1, E', B, u, tJ.keep _ _ _ _ h0 (Mv.below hb), fun k hk => ⟨hE k hk, fun d => by have := lD k d; have := hE k hk; omega⟩, hD, Mv.below hb, fun _ h => .inl h⟩
  have hPn : Hid (∀ q' s W, AS nb.z key V E1 q' n J s [] W → _) := fun q' s W hA => AS.popn tJ hA
  have hPs : Hid (∀ q' s x rest W, AS nb.z key V E1 q' n J s (x :: rest) W → _) := fun q' s x rest W hA => AS.pop hBz tJ hA
  have hXn : Hid (∀ q' s b v W, AZ nb.z key V E1 q' n J s [] b v W → _) := fun q' s b v W hA => AZ.popn tJ hA
  have hXs : Hid (∀ q' s x rest b v W, AZ nb.z key V E1 q' n J s (x :: rest) b v W → _) := fun q' s x rest b v W hA => AZ.pop hBz tJ hA
  have hTk : Hid (∀ q' x rest b v W, AZ nb.z key V E1 q' n J (x :: rest) rest b v W → _) := fun q' x rest b v W hA => AZ.takeY hY hA
  have hBx : Hid (∀ q' s rest W, AS nb.z key V E1 q' n J s rest W → ∀ x, _) := fun q' s rest W hA x => AS.box tJ hA x
  have hPt : Hid (∀ q' s rest b v W, AZ nb.z key V E1 q' n J s rest b v W → ∀ x, _) := fun q' s rest b v W hA x => AZ.put tJ hA x
  have hEnd : Hid (∀ q' W, AS nb.z key V E1 q' n J [] [] W → AE V E1 J (Jx ()) W) := fun q' W hA => by
    obtain ⟨D', _, _, _, j, _, _, m, g⟩ := hA
    exact ⟨m, D', g, .inl j⟩
  clear h hB hBz tJ tJx hY h0 hD hV hbl nbl n0 n1 m gr
  unfold qp at *
  refine (callsIn_wide (n := 5)).1 ?_
  refine callsIn_of_wp Tryz.func74 rfl trivial ?_ rfl
  simp only [Tryz.ntmps74, List.size_toArray, List.length_cons, List.length_nil, Nat.reduceAdd, Nat.reduceSub, Array.replicate_succ, Array.replicate_zero, List.push_toArray, List.append_toArray, List.nil_append, List.cons_append]
  gi_wp2_with fail
  refine ⟨trivial, (callsIn_wide.2 hTw.out).mono ?_⟩
  rintro e W1 ⟨q', rfl, hA⟩
  have hAH := hidP hA
  clear hA hTw
  cases L with
  | nil =>
    have hP := hidP (hPn.out q' _ W1 hAH.out)
    gi_wp2_with fail
    refine ⟨trivial, (callsIn_wide.2 hP.out).mono ?_⟩
    rintro e W2 ⟨rfl, hA2⟩
    obtain ⟨V2, hV2, hX2⟩ := hBx.out q' _ _ W2 hA2 (Wt.zero)
    obtain ⟨b2, hb2⟩ : ∃ b2, W2.heap.size = b2 := ⟨_, rfl⟩
    have hX2H := hidP hX2
    clear hP hA2 hX2 hAH
    change W2.alloc (.cells #[.int .i64 0, .int .i64 0, .int .i64 0, .string ⟨#[]⟩, .string ⟨#[]⟩, .int .i64 0] 61) = V2 at hV2
    have hV2H := hidP hV2
    clear hV2
    gi_wp2_with fail
    gi_loopw [4, 5] (fun a b wr => a = .pointer (some ⟨b2, 0, none⟩) ∧ b = .int .i64 130 ∧ Hid (wr = V2)) (fun _ _ _ => 0)
    case atStart => exact ⟨rfl, rfl, hV2H⟩
    case round =>
      obtain ⟨rfl, rfl, hw⟩ := hrel
      obtain rfl := hw.out
      have fin := hidP (hEnd.out q' _ hX2H.out.as)
      gi_wp2_with fail
      go_end0
      exact fin.out.went
  | cons x L =>
    have hP := hidP (hPs.out q' _ x L W1 hAH.out)
    clear hAH
    gi_wp2_with fail
    refine ⟨trivial, (callsIn_wide.2 hP.out).mono ?_⟩
    rintro e W2 ⟨rfl, hA⟩
    obtain ⟨V2, hV2, hX2⟩ := hBx.out q' _ _ W2 hA x
    obtain ⟨b2, hb2⟩ : ∃ b2, W2.heap.size = b2 := ⟨_, rfl⟩
    rw [hb2] at hX2
    have hX2H := hidP hX2
    clear hP hA hX2
    gi_wp2_with (rw [hV2])
    gi_loopw [4, 5] (fun s4 s5 wr => (∃ x rest b, s4 = .pointer (some ⟨b, 0, none⟩) ∧ s5 = .int .i64 0 ∧ Hid (AZ nb.z key V E1 q' n J (x :: rest) rest b x wr)) ∨ (∃ b, s4 = .pointer (some ⟨b, 0, none⟩) ∧ s5 = .int .i64 130 ∧ Hid (AS nb.z key V E1 q' n J [] [] wr))) (fun _ s5 wr => Qw.mq q' wr + (1 - (intOf s5).toNat))
    case atStart => exact .inl ⟨x, L, b2, rfl, rfl, hX2H⟩
    case round =>
      clear hb2 hV2 hX2H
      rcases hrel with ⟨y, rest, b, rfl, rfl, hA⟩ | ⟨b, rfl, rfl, hA⟩
      · obtain ⟨fn, tmps, assign, body, hy, hR⟩ := hTk.out q' y rest b y wr hA.out
        obtain ⟨yc, _, _⟩ := hA.out.bv
        have hm0 := hidP hA.out.mq
        dsimp only [encE] at hy
        have hRH := hidP hR
        clear hA hR
        gi_wp2_with fail
        refine (wide_round' hRH.out).mono ?_
        rintro e W3 (⟨rfl, hA3⟩ | ⟨rfl, hE⟩)
        · obtain ⟨yc3, _, _⟩ := hA3.bv
          obtain ⟨V3, hV3, hX3⟩ := hBx.out q' _ _ W3 hA3.as y
          obtain ⟨b3, hb3⟩ : ∃ b3, W3.heap.size = b3 := ⟨_, rfl⟩
          rw [hb3] at hX3
          clear hRH hy hA3 yc
          cases rest with
          | nil =>
            have hP := hidP (hXn.out q' _ b3 y V3 hX3)
            clear hX3
            gi_wp2_with (rw [hV3])
            refine ⟨trivial, (callsIn_wide.2 hP.out).mono ?_⟩
            rintro e W4 ⟨rfl, hA4⟩
            obtain ⟨V5, hV5, hX5⟩ := hPt.out q' _ _ b3 y W4 hA4 (Wt.zero)
            obtain ⟨yc4, yf4, _⟩ := hA4.bv
            have hX5H := hidP hX5
            change ((((((W4.setCell ⟨b3, 0, none⟩ (.int .i64 0)).setCell ⟨b3, 1, none⟩ (.int .i64 0)).setCell ⟨b3, 2, none⟩ (.int .i64 0)).setCell ⟨b3, 3, none⟩ (.string ⟨#[]⟩)).setCell ⟨b3, 4, none⟩ (.string ⟨#[]⟩)).setCell ⟨b3, 5, none⟩ (.int .i64 0)) = V5 at hV5
            clear hP hA4 hX5 yc3 hV3
            gi_wp2_with (rw [hV5])
            refine ⟨.inr ⟨b3, rfl, rfl, hidP hX5H.out.as⟩, ?_⟩
            have h1 := hm0.out
            have h2 := hX5H.out.mq
            simp only [List.length_nil] at h1 h2
            show Qw.mq q' V5 + 0 < Qw.mq q' wr + 1
            omega
          | cons z R =>
            have hP := hidP (hXs.out q' _ z R b3 y V3 hX3)
            clear hX3
            gi_wp2_with (rw [hV3])
            refine ⟨trivial, (callsIn_wide.2 hP.out).mono ?_⟩
            rintro e W4 ⟨rfl, hA4⟩
            obtain ⟨V5, hV5, hX5⟩ := hPt.out q' _ _ b3 y W4 hA4 z
            obtain ⟨yc4, yf4, _⟩ := hA4.bv
            have hX5H := hidP hX5
            clear hP hA4 hX5 yc3 hV3
            gi_wp2_with (rw [hV5])
            refine ⟨.inl ⟨z, R, b3, rfl, rfl, hX5H⟩, ?_⟩
            have h1 := hm0.out
            have h2 := hX5H.out.mq
            simp only [List.length_cons] at h1
            show Qw.mq q' V5 + 1 < Qw.mq q' wr + 1
            omega
        · have hEH := hidP hE
          clear hRH hE
          gi_wp2_with fail
          refine bodyPost_ret (results_none rfl _ _ _) rfl ?_
          exact hEH.out.went
      · have fin := hidP (hEnd.out q' _ hA.out)
        gi_wp2_with fail
        go_end0
        exact fin.out.went
end Go.Proofs.YtdcidlgmnnaahaaGreat.Qw
/- All of an empty queue that has no order: the zero one. -/
namespace Go.Proofs.YtdcidlgmnnaahaaGreat.Qw
open Go.RowKit Go.Shelf Go.Lib
attribute [local go_sem] Oper.semAt_some
set_option maxRecDepth 100000 in
set_option maxHeartbeats 4000000 in
theorem twin_nil {nb : NB} (hNf : nb.f = .nilFunc) {key : El → Int} {w : World} {q : Nat} {E B : Nat → Prop} {L : List El} {n : Nat} (h : Qu nb key w q E B L n) :
    Calls Tryz.prog 75 #[qp q] w fun e V => ∃ q' E', e = .returned (qp q') ∧ Qu nb.z key V q' E' B L n ∧ (∀ k, E' k → w.heap.size ≤ k) ∧ Below w.heap.size w V := by
  obtain ⟨v, xs, F, L', a1, a2, a3, a4, a5, a6⟩ := h
  obtain ⟨pv, cv, hv⟩ := a1.sv.shape
  obtain ⟨nv, hnv⟩ : ∃ nv, xs.length = nv := ⟨_, rfl⟩
  rw [hnv] at hv
  obtain ⟨cn, hcn⟩ : ∃ cn, L.length = cn := ⟨_, rfl⟩
  have hbd : Below w.heap.size w w.drew := (Below.refl _ _).drew
  have ad := a1.below hbd
  have hS : w.drew.cell? ⟨q, 0, none⟩ = some (.nilFunc) ∧ w.drew.cell? ⟨q, 1, none⟩ = some (.slice pv nv cv) ∧ w.drew.cell? ⟨q, 2, none⟩ = some (.int .i64 cn) ∧ w.drew.cell? ⟨q, 3, none⟩ = some (.int .i64 n) := ⟨ad.c0.trans (congrArg some hNf), by rw [← hv]; exact ad.c1, by rw [← hcn]; exact ad.c2, ad.c3⟩
  have hC : Hid (Calls Tryz.prog 72 #[.slice pv nv cv] w.drew fun e V1 => ∃ pv2 nv2 cv2, e = .returned (.slice pv2 nv2 cv2) ∧ (V1.cell? ⟨q, 0, none⟩ = some (.nilFunc) ∧ V1.cell? ⟨q, 1, none⟩ = some (.slice pv nv cv) ∧ V1.cell? ⟨q, 2, none⟩ = some (.int .i64 cn) ∧ V1.cell? ⟨q, 3, none⟩ = some (.int .i64 n)) ∧ ∃ V2, V1.alloc (.cells #[.nilFunc, .slice pv2 nv2 cv2, .int .i64 cn, .int .i64 n] 54) = V2 ∧ (V2.cell? ⟨q, 0, none⟩ = some (.nilFunc) ∧ V2.cell? ⟨q, 1, none⟩ = some (.slice pv nv cv) ∧ V2.cell? ⟨q, 2, none⟩ = some (.int .i64 cn) ∧ V2.cell? ⟨q, 3, none⟩ = some (.int .i64 n)) ∧ ∃ E', Qu nb.z key V2 V1.heap.size E' B L n ∧ (∀ k, E' k → w.heap.size ≤ k) ∧ Below w.heap.size w V2) := by
    have c := clone_any ad.sv (by have := ad.len; omega)
    rw [hv] at c
    refine c.mono ?_
    rintro e V1 ⟨v', rfl, sv', hf, hb⟩
    obtain ⟨pv2, cv2, hv2⟩ := sv'.shape
    have b1 := ad.below hb
    refine ⟨pv2, xs.length, cv2, by rw [hv2], ⟨b1.c0.trans (congrArg some hNf), by rw [← hv]; exact b1.c1, by rw [← hcn]; exact b1.c2, b1.c3⟩, ?_⟩
    obtain ⟨V2, hV2⟩ : ∃ V2, V1.alloc (.cells #[.nilFunc, .slice pv2 xs.length cv2, .int .i64 cn, .int .i64 n] 54) = V2 := ⟨_, rfl⟩
    have hb2 : Below V1.heap.size V1 V2 := by rw [← hV2]; exact (Below.refl _ _).alloc (Nat.le_refl _) _
    have b2 := b1.below hb2
    have hbw : Below w.heap.size w V2 := (hbd.trans (hb.mono (Nat.le_refl _))).trans (hb2.mono hb.size)
    have sz : w.heap.size ≤ V1.heap.size := hb.size
    have c : ∀ j u, #[Value.nilFunc, .slice pv2 xs.length cv2, .int .i64 cn, .int .i64 n][j]? = some u → V2.cell? ⟨V1.heap.size, j, none⟩ = some u := fun j u hj => by rw [← hV2]; exact cell_at rfl hj
    have f : ∀ j, V2.frozen? ⟨V1.heap.size, j, none⟩ = false := fun j => by rw [← hV2]; exact froz_new rfl
    have lo : ∀ k, B k → k < w.heap.size := a1.lo
    refine ⟨V2, hV2, ⟨b2.c0.trans (congrArg some hNf), by rw [← hv]; exact b2.c1, by rw [← hcn]; exact b2.c2, b2.c3⟩, fun k => k = V1.heap.size ∨ nbk v' = some k, ⟨v', xs, F, L', ⟨(by unfold fnV; exact (c 0 _ rfl).trans (congrArg some hNf.symm)), by rw [hv2]; exact c 1 _ rfl, by rw [hcn]; exact c 2 _ rfl, c 3 _ rfl, f 1, f 2, f 3, sv'.mv (F := fun _ => False) (Mv.below hb2) (fun _ _ h => h), b2.rf, fun e => by have := sv'.lt e; omega, fun k hk => ⟨by have := lo k hk; omega, fun e => by have := hf k e; have := lo k hk; have : w.drew.heap.size = w.heap.size := rfl; omega⟩, b2.lo, a1.len, ⟨fun j hj => by rw [← hV2]; exact cell_new_none rfl (by simp; omega), fun j _ => by rw [← hV2]; exact froz_new rfl⟩⟩, a2, a3, a4, a5, fun _ => Iff.rfl⟩, fun k hk => ?_, hbw⟩
    rcases hk with e | e
    · omega
    · exact hf k e
  clear a1 a2 a3 a4 a5 a6 hv hnv hcn hbd ad
  unfold qp at *
  go_enter Tryz.func75, Tryz.ntmps75
  go_wp2_with fail
  refine Zs.region (S := fun W => W.cell? ⟨q, 0, none⟩ = some (.nilFunc) ∧ W.cell? ⟨q, 1, none⟩ = some (.slice pv nv cv) ∧ W.cell? ⟨q, 2, none⟩ = some (.int .i64 cn) ∧ W.cell? ⟨q, 3, none⟩ = some (.int .i64 n)) 19 (by kernel_rfl) ?_
  refine Zs.pure (i := 0) (oi := ⟨some 3, _, _, _, _, _⟩) (v := ?v0) rfl (by kernel_rfl) (by kernel_rfl) (by kernel_rfl) (by decide) (fun _ _ _ h => h) (Or.inl ⟨by rfl, ?hy0⟩) hS ?_
  case hy0 => (intro w hSw; (try dsimp only at hSw); go_simp; try with_reducible rfl)
  simp only [Act.put, List.setIfInBounds_toArray, List.set_cons_zero, List.set_cons_succ]
  refine Zs.pure (i := 1) (oi := ⟨some 4, _, _, _, _, _⟩) (v := ?v1) rfl (by kernel_rfl) (by kernel_rfl) (by kernel_rfl) (by decide) (fun _ _ _ h => h) (Or.inl ⟨by rfl, ?hy1⟩) hS ?_
  case hy1 => (intro w hSw; (try dsimp only at hSw); go_simp; try with_reducible rfl)
  simp only [Act.put, List.setIfInBounds_toArray, List.set_cons_zero, List.set_cons_succ]
  refine Zs.pure (i := 2) (oi := ⟨some 5, _, _, _, _, _⟩) (v := ?v2) rfl (by kernel_rfl) (by kernel_rfl) (by kernel_rfl) (by decide) (fun _ _ _ h => h) (Or.inl ⟨by rfl, ?hy2⟩) hS ?_
  case hy2 => (intro w hSw; (try dsimp only at hSw); go_simp; try with_reducible rfl)
  simp only [Act.put, List.setIfInBounds_toArray, List.set_cons_zero, List.set_cons_succ]
  refine Zs.take (i := 3) (oi := ⟨some 6, _, _, _, _, _⟩) (v := .nilFunc) rfl (by kernel_rfl) (by kernel_rfl) (by kernel_rfl) (by decide) (by kernel_rfl) (by kernel_rfl) (fun _ _ _ h => h) (Or.inl ⟨by rfl, ?hy3⟩) hS ?_
  case hy3 => (intro w hSw; (try dsimp only at hSw); go_simp; try with_reducible rfl)
  simp only [Act.put, List.setIfInBounds_toArray, List.set_cons_zero, List.set_cons_succ]
  refine Zs.pure (i := 4) (oi := ⟨some 7, _, _, _, _, _⟩) (v := ?v4) rfl (by kernel_rfl) (by kernel_rfl) (by kernel_rfl) (by decide) (fun _ _ _ h => h) (Or.inl ⟨by rfl, ?hy4⟩) hS ?_
  case hy4 => (intro w hSw; (try dsimp only at hSw); go_simp; try with_reducible rfl)
  simp only [Act.put, List.setIfInBounds_toArray, List.set_cons_zero, List.set_cons_succ]
  refine Zs.pure (i := 5) (oi := ⟨some 8, _, _, _, _, _⟩) (v := ?v5) rfl (by kernel_rfl) (by kernel_rfl) (by kernel_rfl) (by decide) (fun _ _ _ h => h) (Or.inl ⟨by rfl, ?hy5⟩) hS ?_
  case hy5 => (intro w hSw; (try dsimp only at hSw); go_simp; try with_reducible rfl)
  simp only [Act.put, List.setIfInBounds_toArray, List.set_cons_zero, List.set_cons_succ]
  refine Zs.pure (i := 6) (oi := ⟨some 9, _, _, _, _, _⟩) (v := ?v6) rfl (by kernel_rfl) (by kernel_rfl) (by kernel_rfl) (by decide) (fun _ _ _ h => h) (Or.inl ⟨by rfl, ?hy6⟩) hS ?_
  case hy6 => (intro w hSw; (try dsimp only at hSw); go_simp; try with_reducible rfl)
  simp only [Act.put, List.setIfInBounds_toArray, List.set_cons_zero, List.set_cons_succ]
  refine Zs.take (i := 7) (oi := ⟨some 10, _, _, _, _, _⟩) (v := .slice pv nv cv) rfl (by kernel_rfl) (by kernel_rfl) (by kernel_rfl) (by decide) (by kernel_rfl) (by kernel_rfl) (fun _ _ _ h => h) (Or.inl ⟨by rfl, ?hy7⟩) hS ?_
  case hy7 => (intro w hSw; (try dsimp only at hSw); go_simp; try with_reducible rfl)
  simp only [Act.put, List.setIfInBounds_toArray, List.set_cons_zero, List.set_cons_succ]
  refine Zs.pure (i := 9) (oi := ⟨some 12, _, _, _, _, _⟩) (v := ?v9) rfl (by kernel_rfl) (by kernel_rfl) (by kernel_rfl) (by decide) (fun _ _ _ h => h) (Or.inl ⟨by rfl, ?hy9⟩) hS ?_
  case hy9 => (intro w hSw; (try dsimp only at hSw); go_simp; try with_reducible rfl)
  simp only [Act.put, List.setIfInBounds_toArray, List.set_cons_zero, List.set_cons_succ]
  refine Zs.pure (i := 10) (oi := ⟨some 13, _, _, _, _, _⟩) (v := ?v10) rfl (by kernel_rfl) (by kernel_rfl) (by kernel_rfl) (by decide) (fun _ _ _ h => h) (Or.inl ⟨by rfl, ?hy10⟩) hS ?_
  case hy10 => (intro w hSw; (try dsimp only at hSw); go_simp; try with_reducible rfl)
  simp only [Act.put, List.setIfInBounds_toArray, List.set_cons_zero, List.set_cons_succ]
  refine Zs.pure (i := 11) (oi := ⟨some 14, _, _, _, _, _⟩) (v := ?v11) rfl (by kernel_rfl) (by kernel_rfl) (by kernel_rfl) (by decide) (fun _ _ _ h => h) (Or.inl ⟨by rfl, ?hy11⟩) hS ?_
  case hy11 => (intro w hSw; (try dsimp only at hSw); go_simp; try with_reducible rfl)
  simp only [Act.put, List.setIfInBounds_toArray, List.set_cons_zero, List.set_cons_succ]
  refine Zs.take (i := 12) (oi := ⟨some 15, _, _, _, _, _⟩) (v := .int .i64 cn) rfl (by kernel_rfl) (by kernel_rfl) (by kernel_rfl) (by decide) (by kernel_rfl) (by kernel_rfl) (fun _ _ _ h => h) (Or.inl ⟨by rfl, ?hy12⟩) hS ?_
  case hy12 => (intro w hSw; (try dsimp only at hSw); go_simp; try with_reducible rfl)
  simp only [Act.put, List.setIfInBounds_toArray, List.set_cons_zero, List.set_cons_succ]
  refine Zs.pure (i := 13) (oi := ⟨some 16, _, _, _, _, _⟩) (v := ?v13) rfl (by kernel_rfl) (by kernel_rfl) (by kernel_rfl) (by decide) (fun _ _ _ h => h) (Or.inl ⟨by rfl, ?hy13⟩) hS ?_
  case hy13 => (intro w hSw; (try dsimp only at hSw); go_simp; try with_reducible rfl)
  simp only [Act.put, List.setIfInBounds_toArray, List.set_cons_zero, List.set_cons_succ]
  refine Zs.pure (i := 14) (oi := ⟨some 17, _, _, _, _, _⟩) (v := ?v14) rfl (by kernel_rfl) (by kernel_rfl) (by kernel_rfl) (by decide) (fun _ _ _ h => h) (Or.inl ⟨by rfl, ?hy14⟩) hS ?_
  case hy14 => (intro w hSw; (try dsimp only at hSw); go_simp; try with_reducible rfl)
  simp only [Act.put, List.setIfInBounds_toArray, List.set_cons_zero, List.set_cons_succ]
  refine Zs.pure (i := 15) (oi := ⟨some 18, _, _, _, _, _⟩) (v := ?v15) rfl (by kernel_rfl) (by kernel_rfl) (by kernel_rfl) (by decide) (fun _ _ _ h => h) (Or.inl ⟨by rfl, ?hy15⟩) hS ?_
  case hy15 => (intro w hSw; (try dsimp only at hSw); go_simp; try with_reducible rfl)
  simp only [Act.put, List.setIfInBounds_toArray, List.set_cons_zero, List.set_cons_succ]
  refine Zs.take (i := 16) (oi := ⟨some 19, _, _, _, _, _⟩) (v := .int .i64 n) rfl (by kernel_rfl) (by kernel_rfl) (by kernel_rfl) (by decide) (by kernel_rfl) (by kernel_rfl) (fun _ _ _ h => h) (Or.inl ⟨by rfl, ?hy16⟩) hS ?_
  case hy16 => (intro w hSw; (try dsimp only at hSw); go_simp; try with_reducible rfl)
  simp only [Act.put, List.setIfInBounds_toArray, List.set_cons_zero, List.set_cons_succ]
  refine Zs.one (i := 8) (oi := ⟨some 11, _, _, _, _, _⟩) (by kernel_rfl) rfl (fun K hK => ?_)
  go_simp
  refine hC.out.mono ?_
  rintro e V1 ⟨pv2, nv2, cv2, rfl, hS1, V2, hV2, fin⟩
  have finH := hidP fin
  clear fin hC
  go_wp2_with fail
  refine hK.out _ _ (fun _ => hS1) ?_
  clear hK K
  try simp only [Act.put, List.setIfInBounds_toArray, List.set_cons_zero, List.set_cons_succ]
  refine Zs.pure (i := 17) (oi := ⟨some 20, _, _, _, _, _⟩) (v := .agg #[.nilFunc, .slice pv2 nv2 cv2, .int .i64 cn, .int .i64 n]) rfl (by kernel_rfl) (by kernel_rfl) (by kernel_rfl) (by decide) (fun _ _ _ h => h) (Or.inl ⟨by rfl, ?hy17⟩) hS1 ?_
  case hy17 => (intro w hSw; (try dsimp only at hSw); go_simp; try with_reducible rfl)
  simp only [Act.put, List.setIfInBounds_toArray, List.set_cons_zero, List.set_cons_succ]
  refine Zs.one (i := 18) (oi := ⟨some 21, _, _, _, _, _⟩) (by kernel_rfl) rfl (fun K hK => ?_)
  go_simp
  refine hK.out _ _ (fun _ => finH.out.1) ?_
  clear hK K
  try simp only [Act.put, List.setIfInBounds_toArray, List.set_cons_zero, List.set_cons_succ]
  refine Zs.one (i := 19) (oi := ⟨some 2, _, _, _, _, _⟩) (by kernel_rfl) rfl (fun K hK => ?_)
  go_simp
  refine hK.out _ _ (fun q => absurd q (by decide)) ?_
  clear hK K
  try simp only [Act.put, List.setIfInBounds_toArray, List.set_cons_zero, List.set_cons_succ]
  refine Zs.done (by kernel_rfl) ?_ _
  go_wp2_with fail
  go_ret
  exact ⟨V1.heap.size, finH.out.2.choose, rfl, finH.out.2.choose_spec⟩
set_option maxRecDepth 100000 in
set_option maxHeartbeats 4000000 in
theorem allq_nil {nb : NB} {key : El → Int} (hf : nb.f = .nilFunc) {q bl : Nat} {E0 B : Nat → Prop} {n : Nat} (E : Nat → Prop) (W : World) (h : Qu nb key W q E0 B [] n) (hbl : W.cell? ⟨bl, 0, none⟩ = some (qp q)) (nbl : ¬ E bl) (n0 : ∀ k, E0 k → ¬ E k) (n1 : ∀ k, B k → ¬ E k) :
    Row Tryz.prog 74 #[.pointer (some ⟨bl, 0, none⟩)] encE [] E W := by
  intro u J Jx E1 V m gr tJ tJx hY h0
  have d1 := m.cell (a := ⟨bl, 0, none⟩) nbl hbl
  have hV := h.mv m n0 n1
  have hD : ∀ k, B k → ¬ E1 k := fun k hk => gr.free (h.lt.2 k hk) (n1 k hk)
  have hTw : Hid (Calls Tryz.prog 75 #[qp q] V fun e V' => ∃ q', e = .returned (qp q') ∧ AS nb.z key V E1 q' n J [] [] V') := by
    refine (twin_nil hf hV).mono ?_
    rintro e V' ⟨q', E', rfl, u, hE, hb⟩
    have lD := tJ.low _ _ _ h0
    exact ⟨q', rfl, E1, E', B, u, tJ.keep _ _ _ _ h0 (Mv.below hb), fun k hk => ⟨hE k hk, fun d => by have := lD k d; have := hE k hk; omega⟩, hD, Mv.below hb, fun _ h => .inl h⟩
  have hPn : Hid (∀ q' s W, AS nb.z key V E1 q' n J s [] W → _) := fun q' s W hA => AS.popn tJ hA
  have hBx : Hid (∀ q' s rest W, AS nb.z key V E1 q' n J s rest W → ∀ x, _) := fun q' s rest W hA x => AS.box tJ hA x
  have hEnd : Hid (∀ q' W, AS nb.z key V E1 q' n J [] [] W → AE V E1 J (Jx ()) W) := fun q' W hA => by
    obtain ⟨D', _, _, _, j, _, _, m, g⟩ := hA
    exact ⟨m, D', g, .inl j⟩
  clear h hf tJ tJx hY h0 hD hV hbl nbl n0 n1 m gr
  unfold qp at *
  refine (callsIn_wide (n := 5)).1 ?_
  refine callsIn_of_wp Tryz.func74 rfl trivial ?_ rfl
  simp only [Tryz.ntmps74, List.size_toArray, List.length_cons, List.length_nil, Nat.reduceAdd, Nat.reduceSub, Array.replicate_succ, Array.replicate_zero, List.push_toArray, List.append_toArray, List.nil_append, List.cons_append]
  gi_wp2_with fail
  refine ⟨trivial, (callsIn_wide.2 hTw.out).mono ?_⟩
  rintro e W1 ⟨q', rfl, hA⟩
  have hAH := hidP hA
  clear hA hTw
  have hP := hidP (hPn.out q' _ W1 hAH.out)
  gi_wp2_with fail
  refine ⟨trivial, (callsIn_wide.2 hP.out).mono ?_⟩
  rintro e W2 ⟨rfl, hA2⟩
  obtain ⟨V2, hV2, hX2⟩ := hBx.out q' _ _ W2 hA2 (Wt.zero)
  obtain ⟨b2, hb2⟩ : ∃ b2, W2.heap.size = b2 := ⟨_, rfl⟩
  have hX2H := hidP hX2
  clear hP hA2 hX2 hAH
  change W2.alloc (.cells #[.int .i64 0, .int .i64 0, .int .i64 0, .string ⟨#[]⟩, .string ⟨#[]⟩, .int .i64 0] 61) = V2 at hV2
  have hV2H := hidP hV2
  clear hV2
  gi_wp2_with fail
  gi_loopw [4, 5] (fun a b wr => a = .pointer (some ⟨b2, 0, none⟩) ∧ b = .int .i64 130 ∧ Hid (wr = V2)) (fun _ _ _ => 0)
  case atStart => exact ⟨rfl, rfl, hV2H⟩
  case round =>
    obtain ⟨rfl, rfl, hw⟩ := hrel
    obtain rfl := hw.out
    have fin := hidP (hEnd.out q' _ hX2H.out.as)
    gi_wp2_with fail
    go_end0
    exact fin.out.went
end Go.Proofs.YtdcidlgmnnaahaaGreat.Qw
/- LoopPlays: what waits, given to the law's closure. -/
namespace Go.Proofs.YtdcidlgmnnaahaaGreat
open Go.RowKit Go.Shelf Go.Lib
attribute [local go_sem] Oper.semAt_some
set_option maxRecDepth 100000 in
set_option maxHeartbeats 4000000 in
theorem all_plays {lb n bl : Nat} {El : Nat → Prop} {L : List Wt} {T : List Du} (k1 k2 : Nat) (E1 : Nat → Prop) (V : World) (hV : Lo V lb El L n T) (cbl : V.cell? ⟨bl, 0, none⟩ = some (lp lb)) (n0 : ∀ k, El k → ¬ E1 k) (J : List Wt → (Nat → Prop) → World → Prop) (Jx : (Nat → Prop) → World → Prop) (hJ : Ter V.heap.size J) (hJx : Ter V.heap.size fun _ : Unit => Jx)
    (hY : ∀ x rest E W, J (x :: rest) E W → Calls Tryz.prog 40 #[.agg #[.int .i64 x.k, .int .i64 x.p, .int .i64 x.s, .string x.u, .string x.x], .pointer (some ⟨k1, 0, none⟩), .pointer (some ⟨k2, 0, none⟩)] W fun e W' => ∃ b, e = .returned (.bool b) ∧ Mv E W W' ∧ ∃ E', Gr E W E' ∧ if b = true then J rest E' W' else Jx E' W')
    (h0 : J L E1 V) :
    Calls Tryz.prog 56 #[.func (.func 40) #[] #[.pointer (some ⟨k1, 0, none⟩), .pointer (some ⟨k2, 0, none⟩)], .pointer (some ⟨bl, 0, none⟩)] V fun e W => e = .returned (.tuple #[]) ∧ Mv E1 V W ∧ ∃ E', Gr E1 V E' ∧ (J [] E' W ∨ Jx E' W) := by
  have lJ := hJ.low _ _ _ h0
  obtain ⟨N, hN⟩ : ∃ N, V.heap.size = N := ⟨_, rfl⟩
  obtain ⟨W1, hW1⟩ : ∃ W1, V.alloc (.cells #[.func (.func 40) #[] #[.pointer (some ⟨k1, 0, none⟩), .pointer (some ⟨k2, 0, none⟩)]] 86) = W1 := ⟨_, rfl⟩
  have b1 : Below V.heap.size V W1 := by rw [← hW1]; exact (Below.refl _ _).alloc (Nat.le_refl _) _
  have s1 : W1.heap.size = N + 1 := by rw [← hW1]; simp [hN]
  have y1 : W1.cell? ⟨N, 0, none⟩ = some (.func (.func 40) #[] #[.pointer (some ⟨k1, 0, none⟩), .pointer (some ⟨k2, 0, none⟩)]) := by rw [← hW1]; exact cell_at hN rfl
  have cbl1 : W1.cell? ⟨bl, 0, none⟩ = some (lp lb) := bcell b1 (cell_lt cbl) cbl
  obtain ⟨U, hU⟩ : ∃ U, W1.alloc (.cells #[Qw.qp lb] 58) = U := ⟨_, rfl⟩
  have bU : Below W1.heap.size W1 U := by rw [← hU]; exact (Below.refl _ _).alloc (Nat.le_refl _) _
  have sU1 : U.heap.size = N + 2 := by rw [← hU]; simp [s1]
  have hA := Qw.allf_any lb W1
  rw [hU, s1] at hA
  have cbb : U.cell? ⟨N + 1, 0, none⟩ = some (Qw.qp lb) := by rw [← hU]; exact cell_at s1 rfl
  have bVU : Below V.heap.size V U := b1.trans (bU.mono b1.size)
  have mV : Mv E1 V U := Mv.below bVU
  have loU := (hV.below b1).below bU
  have nb1 : ¬ E1 (N + 1) := fun e => by have := lJ _ e; omega
  have hrow : Row Tryz.prog 74 #[.pointer (some ⟨N + 1, 0, none⟩)] Qw.encE L E1 U := by
    obtain ⟨Eq, B, mv, h1, h2, h3, h4, h5, h6, h7, h8⟩ := loU
    by_cases e : n = 0
    · have hL : L = [] := List.eq_nil_of_length_eq_zero (by have := (Qu.q h1).2.2.1; omega)
      subst hL
      exact Qw.allq_nil (by unfold nbq; rw [if_pos e]) E1 U h1 cbb nb1 (fun k hk => n0 k ((h5 k).2 (.inl hk))) (fun k hk => n0 k ((h5 k).2 (.inr (.inl hk))))
    · exact Qw.allq_row (bfq e mv) E1 U h1 cbb nb1 (fun k hk => n0 k ((h5 k).2 (.inl hk))) (fun k hk => n0 k ((h5 k).2 (.inr (.inl hk))))
  have k0 : J L E1 U := hJ.keep _ _ _ _ h0 (Mv.below bVU)
  have sU : V.heap.size ≤ U.heap.size := mV.size
  have cy : U.cell? ⟨N, 0, none⟩ = some (.func (.func 40) #[] #[.pointer (some ⟨k1, 0, none⟩), .pointer (some ⟨k2, 0, none⟩)]) := bcell bU (by omega) y1
  have ey : ¬ E1 N := fun e => by have := lJ _ e; omega
  have tIH := hidP (hJ.up sU)
  have hA2 : Hid (Calls Tryz.prog 57 #[.pointer (some ⟨lb, 0, none⟩)] W1 fun e V => e = .returned (.func (.func 74) #[] #[.pointer (some ⟨N + 1, 0, none⟩)]) ∧ V = U) := hA
  have hrowH := hidP hrow
  have k0H := hidP k0
  have mVH := hidP mV
  have cyH := hidP cy
  have hJH := hidP hJ
  have hJxH := hidP hJx
  have hYH := hidP hY
  have hNH := hidP hN
  clear hV cbl hJ hJx hY h0 lJ y1 b1 s1 hU bU hA cbb bVU loU nb1 hrow k0 mV cy
  unfold lp at *
  refine (callsIn_wide (n := 5)).1 ?_
  refine callsIn_of_wp_marks Tryz.func56 rfl trivial ?_ rfl
  simp only [Tryz.ntmps56, List.size_toArray, List.length_cons, List.length_nil, Nat.reduceAdd, Nat.reduceSub, Array.replicate_succ, Array.replicate_zero, List.push_toArray, List.append_toArray, List.nil_append, List.cons_append]
  gi_wp2_with (rw [hW1])
  clear hN
  refine ⟨trivial, (callsIn_wide.2 hA2.out).mono ?_⟩
  rintro e V' ⟨rfl, rfl⟩
  gi_wp2_with fail
  refine loop_out (gf := 74) (lb := #[.pointer (some ⟨N + 1, 0, none⟩)]) rfl (enters_of Tryz.func74 (by kernel_rfl) rfl) hrowH.out (fun _ => rfl)
    J (fun c E2 W => c = Code.ret ∧ Jx E2 W) tIH.out (((hJxH.out.comp (fun _ => ())).up sU).and (fun c => c = Code.ret)) k0H.out ?round ?done ?stop
  case round =>
    intro l1 hl1 x rest E2 U1 hi hm hg hEl hrec
    have hlt : l1 < U1.heap.size := by obtain ⟨r, hr⟩ := hrec; exact (Array.getElem?_eq_some_iff.1 hr).1
    simp only [Qw.encE, Qw.ev]
    gi_wp2
    refine ⟨⟨Mv.alloc _ _ _, ?_⟩, fun U2 tw => ?_⟩
    · exact Below.heap_alloc _ _ _ hlt
    obtain ⟨hi2, hm2⟩ := tw.go tIH.out hi (Mv.alloc _ _ _) hm (Nat.le_refl _) hl1 hEl
    have cy2 := hm2.cell (a := ⟨N, 0, none⟩) ey cyH.out
    have bx : ∀ j u, #[Value.int .i64 x.k, .int .i64 x.p, .int .i64 x.s, .string x.u, .string x.x, .int .i64 x.n][j]? = some u → U2.cell? ⟨U1.heap.size, j, none⟩ = some u := fun j u hj => tw.mv.cell (a := ⟨U1.heap.size, j, none⟩) (by show ¬ U1.heap.size = l1; omega) (cell_at rfl hj)
    have q0 : U2.cell? ⟨U1.heap.size, 0, none⟩ = some (.int .i64 x.k) := bx 0 _ rfl
    have q1 : U2.cell? ⟨U1.heap.size, 1, none⟩ = some (.int .i64 x.p) := bx 1 _ rfl
    have q2 : U2.cell? ⟨U1.heap.size, 2, none⟩ = some (.int .i64 x.s) := bx 2 _ rfl
    have q3 : U2.cell? ⟨U1.heap.size, 3, none⟩ = some (.string x.u) := bx 3 _ rfl
    have q4 : U2.cell? ⟨U1.heap.size, 4, none⟩ = some (.string x.x) := bx 4 _ rfl
    have hmt := hidP (hYH.out x rest E2 U2 hi2)
    clear hi hm hi2 hm2 bx
    gi_wp2_with fail
    refine ⟨trivial, (CallsIn.inRound l1 (callsIn_wide.2 hmt.out)).mono ?_⟩
    rintro e U3 ⟨b, rfl, m3, E3, g3, hj3⟩
    cases b with
    | true =>
      gi_wp2_with fail
      exact ⟨m3, E3, g3, hj3⟩
    | false =>
      gi_wp2_with fail
      exact ⟨m3, E3, g3, rfl, hj3⟩
  case done =>
    intro D E2 U3 hD hK hnD hm hg hi
    gi_wp2
    refine ⟨by simp, .inl ⟨_, _, rfl, run_takeDeferred hK, ?_⟩⟩
    exact ⟨_, results_none rfl _ _ _, rfl, (mVH.out.trans' hm).put_new (by omega) _, E2, hg.mono sU, .inl (hJH.out.keep _ _ _ _ hi (.put ⟨hnD, by omega⟩ _))⟩
  case stop =>
    rintro D c E2 U3 hD hK hnD hm hg ⟨rfl, hi⟩
    gi_wp2
    refine ⟨by simp, .inl ⟨_, _, rfl, run_takeDeferred hK, ?_⟩⟩
    exact ⟨_, results_none rfl _ _ _, rfl, (mVH.out.trans' hm).put_new (by omega) _, E2, hg.mono sU, .inr (hJxH.out.keep () _ _ _ hi (.put ⟨hnD, by omega⟩ _))⟩
end Go.Proofs.YtdcidlgmnnaahaaGreat
