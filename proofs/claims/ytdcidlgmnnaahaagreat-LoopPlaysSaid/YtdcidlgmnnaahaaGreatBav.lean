import Derived.Test.YtdcidlgmnnaahaaGreatBau
import Derived.Test.YtdcidlgmnnaahaaGreatBao
import Derived.Laws.EntriesVeiled
/- All as a row: the elements in order, for a taker that is a loop's round. -/
namespace Go.Proofs.YtdcidlgmnnaahaaGreat.Qd
open Go.RowKit Go.Shelf Go.Lib
attribute [local go_sem] Oper.semAt_some
def mq (q : Nat) (w : World) : Nat := match w.cell? ⟨q, 2, none⟩ with
  | some v => (intOf v).toNat
  | none => 0
theorem Qu.mq {nb : NB} {key : El → Int} {w : World} {q : Nat} {E B : Nat → Prop} {L : List El} {n : Nat} (h : Qu nb key w q E B L n) : Qd.mq q w = L.length := by
  obtain ⟨v, xs, F, L', a1, _⟩ := h
  unfold Qd.mq
  rw [a1.c2]
  simp [intOf]
def encE (x : El) : Array Value := #[ev x]
theorem AZ.takeY {nb : NB} {key : El → Int} {w : World} {D0 : Nat → Prop} {q n : Nat} {J : List El → (Nat → Prop) → World → Prop} {Jx : Unit → (Nat → Prop) → World → Prop} {l : Nat} (hT : Yi Tryz.prog l encE J Jx) {x : El} {rest : List El} {b : Nat} {v : El} {W : World} (h : AZ nb key w D0 q n J (x :: rest) rest b v W) :
    YieldAt Fence.wide 3 Tryz.prog l (encE x) W fun e V => (e = .returned (.bool true) ∧ AZ nb key w D0 q n J rest rest b v V) ∨ (e = .returned (.bool false) ∧ AE w D0 J (Jx ()) V) := by
  obtain ⟨D, E, B, ⟨u, j, h1, h2, h3, h4⟩, hv, lo, nD, nE, nB⟩ := h
  obtain ⟨fn, tmps, assign, body, hy, hR⟩ := hT x rest D W j
  refine ⟨fn, tmps, assign, body, hy, hR.mono ?_⟩
  rintro e V ⟨m, (⟨rfl, D', g, j'⟩ | ⟨rfl, D', g, j'⟩)⟩
  · obtain ⟨lE, lB⟩ := u.lt
    have lv := hv.lt
    refine .inl ⟨rfl, D', E, B, ⟨u.mv m (fun k hk => (h1 k hk).2) h2, j', fun k hk => ⟨(h1 k hk).1, fun d => ?_⟩, fun k hk d => ?_, h3.trans h4 m, h4.trans h3.size g⟩, hv.mv m nD, lo, fun d => ?_, nE, nB⟩
    · rcases g k d with s | s
      · exact (h1 k hk).2 s
      · have := lE k hk; omega
    · rcases g k d with s | s
      · exact h2 k hk s
      · have := lB k hk; omega
    · rcases g b d with s | s
      · exact nD s
      · omega
  · exact .inr ⟨rfl, h3.trans h4 m, D', h4.trans h3.size g, .inr j'⟩
theorem AZ.mq {nb : NB} {key : El → Int} {w : World} {D0 : Nat → Prop} {q n : Nat} {J : List El → (Nat → Prop) → World → Prop} {s rest : List El} {b : Nat} {v : El} {W : World} (h : AZ nb key w D0 q n J s rest b v W) : Qd.mq q W = rest.length := by
  obtain ⟨D, E, B, ⟨u, _⟩, _⟩ := h
  exact u.mq
theorem AS.mq {nb : NB} {key : El → Int} {w : World} {D0 : Nat → Prop} {q n : Nat} {J : List El → (Nat → Prop) → World → Prop} {s rest : List El} {W : World} (h : AS nb key w D0 q n J s rest W) : Qd.mq q W = rest.length := by
  obtain ⟨D, E, B, u, _⟩ := h
  exact u.mq
theorem AE.went {w : World} {D : Nat → Prop} {J : List El → (Nat → Prop) → World → Prop} {Jx : Unit → (Nat → Prop) → World → Prop} {V : World} (h : AE w D J (Jx ()) V) {v : Value} : Went J Jx D w (.returned v) V := by
  obtain ⟨m, E', g, h | h⟩ := h
  · exact ⟨⟨_, rfl⟩, m, .inl ⟨E', g, h⟩⟩
  · exact ⟨⟨_, rfl⟩, m, .inr ⟨E', g, h⟩⟩
set_option maxRecDepth 100000 in
set_option maxHeartbeats 4000000 in
theorem allq_row {nb : NB} {key : El → Int} (hB : Bf nb key) {q bl : Nat} {E0 B : Nat → Prop} {L : List El} {n : Nat} (E : Nat → Prop) (W : World) (h : Qu nb key W q E0 B L n) (hbl : W.cell? ⟨bl, 0, none⟩ = some (qp q)) (nbl : ¬ E bl) (n0 : ∀ k, E0 k → ¬ E k) (n1 : ∀ k, B k → ¬ E k) :
    Row Tryz.prog 68 #[.pointer (some ⟨bl, 0, none⟩)] encE L E W := by
  intro u J Jx E1 V m gr tJ tJx hY h0
  have hBz : Bf nb.z key := ⟨hB.fv, hB.eg, hB.ca⟩
  have d1 := m.cell (a := ⟨bl, 0, none⟩) nbl hbl
  have hV := h.mv m n0 n1
  have hD : ∀ k, B k → ¬ E1 k := fun k hk => gr.free (h.lt.2 k hk) (n1 k hk)
  have hTw : Hid (Calls Tryz.prog 69 #[qp q] V fun e V' => ∃ q', e = .returned (qp q') ∧ AS nb.z key V E1 q' n J L L V') := by
    refine (twin_any hB.fv hV).mono ?_
    rintro e V' ⟨q', E', rfl, u, hE, hb⟩
    have lD := tJ.low _ _ _ h0
    exact ⟨q', rfl, E1, E', B, u, tJ.keep _ _ _ _ h0 (Mv.below hb), fun k hk => ⟨hE k hk, fun d => by have := lD k d; have := hE k hk; omega⟩, hD, Mv.below hb, fun _ h => .inl h⟩
  have hPn : Hid (∀ q' s W, AS nb.z key V E1 q' n J s [] W → _) := fun q' s W hA => AS.popn tJ hA
  have hPs : Hid (∀ q' s x rest W, AS nb.z key V E1 q' n J s (x :: rest) W → _) := fun q' s x rest W hA => AS.pop hBz tJ hA
  have hXn : Hid (∀ q' s b v W, AZ nb.z key V E1 q' n J s [] b v W → _) := fun q' s b v W hA => AZ.popn tJ hA
  have hXs : Hid (∀ q' s x rest b v W, AZ nb.z key V E1 q' n J s (x :: rest) b v W → _) := fun q' s x rest b v W hA => AZ.pop hBz tJ hA
  have hTk : Hid (∀ q' x rest b v W, AZ nb.z key V E1 q' n J (x :: rest) rest b v W → _) := fun q' x rest b v W hA => AZ.takeY hY hA
  have hBx : Hid (∀ q' s rest W, AS nb.z key V E1 q' n J s rest W → ∀ x, _) := fun q' s rest W hA x => AS.box tJ hA x
  have hPt : Hid (∀ q' s rest b v W, AZ nb.z key V E1 q' n J s rest b v W → ∀ x, _) := fun q' s rest b v W hA x => AZ.put tJ hA x
  have hEnd : Hid (∀ q' W, AS nb.z key V E1 q' n J [] [] W → AE V E1 J (Jx ()) W) := fun q' W hA => by
    obtain ⟨D', _, _, _, j, _, _, m, g⟩ := hA
    exact ⟨m, D', g, .inl j⟩
  clear h hB hBz tJ tJx hY h0 hD hV hbl nbl n0 n1 m gr
  unfold qp at *
  refine (callsIn_wide (n := 5)).1 ?_
  refine callsIn_of_wp Tryz.func68 rfl trivial ?_ rfl
  simp only [Tryz.ntmps68, List.size_toArray, List.length_cons, List.length_nil, Nat.reduceAdd, Nat.reduceSub, Array.replicate_succ, Array.replicate_zero, List.push_toArray, List.append_toArray, List.nil_append, List.cons_append]
  gi_wp2_with fail
  refine ⟨trivial, (callsIn_wide.2 hTw.out).mono ?_⟩
  rintro e W1 ⟨q', rfl, hA⟩
  have hAH := hidP hA
  clear hA hTw
  cases L with
  | nil =>
    have hP := hidP (hPn.out q' _ W1 hAH.out)
    gi_wp2_with fail
    refine ⟨trivial, (callsIn_wide.2 hP.out).mono ?_⟩
    rintro e W2 ⟨rfl, hA2⟩
    obtain ⟨V2, hV2, hX2⟩ := hBx.out q' _ _ W2 hA2 (Du.zero)
    obtain ⟨b2, hb2⟩ : ∃ b2, W2.heap.size = b2 := ⟨_, rfl⟩
    have hX2H := hidP hX2
    clear hP hA2 hX2 hAH
    change W2.alloc (.cells #[.string ⟨#[]⟩, .string ⟨#[]⟩, .int .i64 0] 68) = V2 at hV2
    have hV2H := hidP hV2
    clear hV2
    gi_wp2_with fail
    gi_loopw [4, 5] (fun a b wr => a = .pointer (some ⟨b2, 0, none⟩) ∧ b = .int .i64 130 ∧ Hid (wr = V2)) (fun _ _ _ => 0)
    case atStart => exact ⟨rfl, rfl, hV2H⟩
    case round =>
      obtain ⟨rfl, rfl, hw⟩ := hrel
      obtain rfl := hw.out
      have fin := hidP (hEnd.out q' _ hX2H.out.as)
      gi_wp2_with fail
      go_end0
      exact fin.out.went
  | cons x L =>
    have hP := hidP (hPs.out q' _ x L W1 hAH.out)
    clear hAH
    gi_wp2_with fail
    refine ⟨trivial, (callsIn_wide.2 hP.out).mono ?_⟩
    rintro e W2 ⟨rfl, hA⟩
    obtain ⟨V2, hV2, hX2⟩ := hBx.out q' _ _ W2 hA x
    obtain ⟨b2, hb2⟩ : ∃ b2, W2.heap.size = b2 := ⟨_, rfl⟩
    rw [hb2] at hX2
    have hX2H := hidP hX2
    clear hP hA hX2
    gi_wp2_with (rw [hV2])
    gi_loopw [4, 5] (fun s4 s5 wr => (∃ x rest b, s4 = .pointer (some ⟨b, 0, none⟩) ∧ s5 = .int .i64 0 ∧ Hid (AZ nb.z key V E1 q' n J (x :: rest) rest b x wr)) ∨ (∃ b, s4 = .pointer (some ⟨b, 0, none⟩) ∧ s5 = .int .i64 130 ∧ Hid (AS nb.z key V E1 q' n J [] [] wr))) (fun _ s5 wr => Qd.mq q' wr + (1 - (intOf s5).toNat))
    case atStart => exact .inl ⟨x, L, b2, rfl, rfl, hX2H⟩
    case round =>
      clear hb2 hV2 hX2H
      rcases hrel with ⟨y, rest, b, rfl, rfl, hA⟩ | ⟨b, rfl, rfl, hA⟩
      · obtain ⟨fn, tmps, assign, body, hy, hR⟩ := hTk.out q' y rest b y wr hA.out
        obtain ⟨yc, _, _⟩ := hA.out.bv
        have hm0 := hidP hA.out.mq
        dsimp only [encE] at hy
        have hRH := hidP hR
        clear hA hR
        gi_wp2_with fail
        refine (wide_round' hRH.out).mono ?_
        rintro e W3 (⟨rfl, hA3⟩ | ⟨rfl, hE⟩)
        · obtain ⟨yc3, _, _⟩ := hA3.bv
          obtain ⟨V3, hV3, hX3⟩ := hBx.out q' _ _ W3 hA3.as y
          obtain ⟨b3, hb3⟩ : ∃ b3, W3.heap.size = b3 := ⟨_, rfl⟩
          rw [hb3] at hX3
          clear hRH hy hA3 yc
          cases rest with
          | nil =>
            have hP := hidP (hXn.out q' _ b3 y V3 hX3)
            clear hX3
            gi_wp2_with (rw [hV3])
            refine ⟨trivial, (callsIn_wide.2 hP.out).mono ?_⟩
            rintro e W4 ⟨rfl, hA4⟩
            obtain ⟨V5, hV5, hX5⟩ := hPt.out q' _ _ b3 y W4 hA4 (Du.zero)
            obtain ⟨yc4, yf4, _⟩ := hA4.bv
            have hX5H := hidP hX5
            change (((W4.setCell ⟨b3, 0, none⟩ (.string ⟨#[]⟩)).setCell ⟨b3, 1, none⟩ (.string ⟨#[]⟩)).setCell ⟨b3, 2, none⟩ (.int .i64 0)) = V5 at hV5
            clear hP hA4 hX5 yc3 hV3
            gi_wp2_with (rw [hV5])
            refine ⟨.inr ⟨b3, rfl, rfl, hidP hX5H.out.as⟩, ?_⟩
            have h1 := hm0.out
            have h2 := hX5H.out.mq
            simp only [List.length_nil] at h1 h2
            show Qd.mq q' V5 + 0 < Qd.mq q' wr + 1
            omega
          | cons z R =>
            have hP := hidP (hXs.out q' _ z R b3 y V3 hX3)
            clear hX3
            gi_wp2_with (rw [hV3])
            refine ⟨trivial, (callsIn_wide.2 hP.out).mono ?_⟩
            rintro e W4 ⟨rfl, hA4⟩
            obtain ⟨V5, hV5, hX5⟩ := hPt.out q' _ _ b3 y W4 hA4 z
            obtain ⟨yc4, yf4, _⟩ := hA4.bv
            have hX5H := hidP hX5
            clear hP hA4 hX5 yc3 hV3
            gi_wp2_with (rw [hV5])
            refine ⟨.inl ⟨z, R, b3, rfl, rfl, hX5H⟩, ?_⟩
            have h1 := hm0.out
            have h2 := hX5H.out.mq
            simp only [List.length_cons] at h1
            show Qd.mq q' V5 + 1 < Qd.mq q' wr + 1
            omega
        · have hEH := hidP hE
          clear hRH hE
          gi_wp2_with fail
          refine bodyPost_ret (results_none rfl _ _ _) rfl ?_
          exact hEH.out.went
      · have fin := hidP (hEnd.out q' _ hA.out)
        gi_wp2_with fail
        go_end0
        exact fin.out.went
end Go.Proofs.YtdcidlgmnnaahaaGreat.Qd
/- Going through the map of timers; the queue of those that are due. -/
namespace Go.Proofs.YtdcidlgmnnaahaaGreat
open Go.RowKit Go.Shelf Go.Lib
attribute [local go_sem] Oper.semAt_some
/-- A going through the map v of the timers T that lies in block r: who is left, how many at most. -/
def Rg (W : World) (r : Nat) (v : Value) (T : List Du) (left : Lit → Bool) (cnt : Nat) : Prop :=
  (v = .map none ∧ T = [] ∧ cnt = 0 ∧ ∃ a s b, W.heap[r]? = some (.mapIter none a s b)) ∨
  ∃ b n l, v = .map (some b) ∧ W.ranges Tryz.prog 66 heldElem b r n (.map l) left cnt ∧ l.Perm (T.map entT)
def mr (r : Nat) (v : Value) (W : World) : Nat := match v with
  | .map (some b) => W.rangeLeft b r
  | _ => 0
theorem Rg.mr {W : World} {r : Nat} {v : Value} {T : List Du} {left : Lit → Bool} {cnt : Nat} (h : Rg W r v T left cnt) : YtdcidlgmnnaahaaGreat.mr r v W = cnt := by
  rcases h with ⟨rfl, _, rfl, _⟩ | ⟨b, n, l, rfl, h, _⟩
  · rfl
  · exact h.left_eq
theorem Rg.lt {W : World} {r : Nat} {v : Value} {T : List Du} {left : Lit → Bool} {cnt : Nat} (h : Rg W r v T left cnt) : r < W.heap.size := by
  rcases h with ⟨rfl, _, rfl, a, s, b, h⟩ | ⟨b, n, l, rfl, h, _⟩
  · exact (Array.getElem?_eq_some_iff.1 h).1
  · exact h.lt
theorem Rg.mv {W V : World} {r : Nat} {v : Value} {T : List Du} {left : Lit → Bool} {cnt : Nat} {E : Nat → Prop} (h : Rg W r v T left cnt) (m : Mv E W V) (hr : ¬ E r) (hv : ∀ k, mbk v = some k → ¬ E k) : Rg V r v T left cnt := by
  have lt := h.lt
  rcases h with ⟨rfl, h1, h2, a, s, b, h⟩ | ⟨b, n, l, rfl, h, h1⟩
  · exact .inl ⟨rfl, h1, h2, a, s, b, (m.block r lt hr).trans h⟩
  · exact .inr ⟨b, n, l, rfl, ranges_mv h m (hv b rfl) hr, h1⟩
theorem run_next_nil {W : World} {r a b : Nat} {s : Array Nat} (h : W.heap[r]? = some (.mapIter none a s b)) (ty : TypeId) : (Instr.next (.pointer (some ⟨r, 0, none⟩)) false ty).run Tryz.prog W = .ok (.tuple #[.bool false]) W := by
  simp only [Instr.next, getObj, Sem.run_bind, Sem.run, h, Result.andThen]
  rfl
set_option maxRecDepth 100000 in
theorem Rg.next {W : World} {r : Nat} {v : Value} {T : List Du} {left : Lit → Bool} {cnt : Nat} (h : Rg W r v T left cnt) (hT : Ts T) (ty : TypeId) :
    ((∀ d ∈ T, left (eT d.k) = false) ∧ (Instr.next (.pointer (some ⟨r, 0, none⟩)) false ty).run Tryz.prog W = .ok (.tuple #[.bool false]) W) ∨
    ∃ d ∈ T, left (eT d.k) = true ∧ ∃ W' cnt', (Instr.next (.pointer (some ⟨r, 0, none⟩)) false ty).run Tryz.prog W = .ok (.tuple #[.bool true, kV d.k, .int .i64 d.t]) W' ∧ (Instr.entry (.pointer (some ⟨r, 0, none⟩))).run Tryz.prog W' = .ok (.tuple #[kV d.k, .int .i64 d.t]) W' ∧
      Rg W' r v T (fun z => left z && !z.sameKey (eT d.k)) cnt' ∧ cnt' < cnt ∧ Mv (fun k => k = r) W W' ∧ W'.heap.size = W.heap.size := by
  rcases h with ⟨rfl, rfl, rfl, a, s, b, h⟩ | ⟨b, n, l, rfl, h, hp⟩
  · exact .inl ⟨(fun _ h => by cases h), run_next_nil h ty⟩
  · rcases h.next lawT ty with ⟨_, hl, hrun⟩ | ⟨key, v, kl, y, w', cnt', hkey, hlk, hv, hat, hrun, hrg, hlt, hgr, hsz, hen⟩
    · exact .inl ⟨fun d _ => hl _, hrun⟩
    · have hh := Maps.has_true_of_atKey hat
      rw [Maps.has_eq] at hh
      obtain ⟨p, hpl, hs⟩ := List.any_eq_true.1 hh
      obtain ⟨d, hd, rfl⟩ := mem_ent hp hpl
      have ek : kl = eT d.k := (WideAt.sameKey_eq hs).symm
      subst ek
      have hz := hat (.held (.int .i64 0))
      rw [at_lk hT hp, lk_some hT hd] at hz
      have hy : y = (.held v, []) := (Option.some.inj hv).symm
      rw [hy] at hz
      have ev : v = .int .i64 d.t := by injection hz with hz; exact hz.symm
      subst ev
      have e2 : key = kV d.k := lawT.inj hkey (keyT d.k)
      subst e2
      exact .inr ⟨d, hd, hlk, w', cnt', hrun, hen, .inr ⟨b, n, l, rfl, hrg, hp⟩, hlt, (Mv.refl _ _).grown hgr (fun k e => .inl (by cases e; rfl)), hsz⟩
theorem TM.range {w : World} {v : Value} {T : List Du} (h : TM w v T) (hT : Ts T) : ∃ w' left cnt, (Instr.range 55 v).run Tryz.prog w = .ok (.pointer (some ⟨w.heap.size, 0, none⟩)) w' ∧ Rg w' w.heap.size v T left cnt ∧ (∀ d ∈ T, left (eT d.k) = true) ∧ cnt ≤ T.length ∧ Below w.heap.size w w' ∧ w'.heap.size = w.heap.size + 1 := by
  rcases h with ⟨rfl, rfl⟩ | ⟨b, rfl, l, h, hp⟩
  · refine ⟨_, fun _ => false, 0, run_range_nilMap w _ _ _ Tryz.underlying55, .inl ⟨rfl, rfl, rfl, _, _, _, heap_alloc_new w _⟩, (fun _ h => by cases h), Nat.le_refl _, (Below.refl _ _).alloc (Nat.le_refl _) _, by simp⟩
  · obtain ⟨w', hrun, hr, hg, hs⟩ := h.range lawT Tryz.underlying55
    refine ⟨w', _, _, hrun, .inr ⟨b, _, l, rfl, hr, hp⟩, fun d hd => ?_, ?_, ?_, hs⟩
    · rw [has_lk hT hp, lk_some hT hd]; rfl
    · rw [Maps.size_eq, hp.length_eq, List.length_map]; exact Nat.le_refl _
    · exact ((Mv.refl (fun _ => False) w).grown hg (fun k e => by cases e)).toBelow (Nat.le_refl _) (fun _ _ h => h)
def nbD : NB := ⟨51, fun _ => none, .func (.func 51) #[] #[]⟩
theorem bfDue : Qd.Bf nbD keyD := bfD _
/-- How far the timers that are due were put in their order: p tells which of those that are due are in it. -/
def DL (now : Int) (T : List Du) (mv : Value) (N : Nat) (V : World) (q r : Nat) (left : Lit → Bool) (p : Du → Prop) (cnt bd : Nat) (wr : World) : Prop :=
  ∃ L2 n Eq B, Qd.Qu nbD keyD wr q Eq B L2 n ∧ (∀ d, d ∈ L2 ↔ (d ∈ T ∧ d.t ≤ now ∧ p d)) ∧ So keyD L2 ∧ Rg wr r mv T left cnt ∧ n + bd ≤ T.length ∧ Below N V wr ∧ (∀ k, Eq k ∨ B k → q ≤ k ∧ k ≠ r)
theorem DL.mv {now : Int} {T : List Du} {mv : Value} {N : Nat} {V : World} {q r : Nat} {left : Lit → Bool} {p : Du → Prop} {cnt bd : Nat} {w w' : World} (h : DL now T mv N V q r left p cnt bd w) (m : Below w.heap.size w w') (hN : N ≤ w.heap.size) : DL now T mv N V q r left p cnt bd w' := by
  obtain ⟨L2, n, Eq, B, h1, h2, h3, h4, h5, h6, h7⟩ := h
  exact ⟨L2, n, Eq, B, h1.mv (D := fun _ => False) (Mv.below m) (fun _ _ h => h) (fun _ _ h => h), h2, h3, h4.mv (E := fun _ => False) (Mv.below m) (fun h => h) (fun _ _ h => h), h5, h6.trans (m.mono hN), h7⟩
theorem DL.next {now : Int} {T : List Du} (hT : Ts T) {mv : Value} {N : Nat} {V : World} {q r : Nat} {left : Lit → Bool} {cnt : Nat} {w : World} (h : DL now T mv N V q r left (fun d => left (eT d.k) = false) cnt cnt w) (hv : ∀ k, mbk mv = some k → k < q) (hq : N ≤ q) (hr : N ≤ r) (ty : TypeId) :
    ((Instr.next (.pointer (some ⟨r, 0, none⟩)) false ty).run Tryz.prog w = .ok (.tuple #[.bool false]) w ∧ ∃ n Eq B, Qd.Qu nbD keyD w q Eq B (T.filter fun d => decide (d.t ≤ now)) n ∧ Below N V w ∧ (∀ k, Eq k ∨ B k → q ≤ k)) ∨
    ∃ d ∈ T, ∃ W' cnt', (Instr.next (.pointer (some ⟨r, 0, none⟩)) false ty).run Tryz.prog w = .ok (.tuple #[.bool true, kV d.k, .int .i64 d.t]) W' ∧ (Instr.entry (.pointer (some ⟨r, 0, none⟩))).run Tryz.prog W' = .ok (.tuple #[kV d.k, .int .i64 d.t]) W' ∧ W'.heap.size = w.heap.size ∧ cnt' < cnt ∧ Mv (fun k => k = r) w W' ∧
      DL now T mv N V q r (fun z => left z && !z.sameKey (eT d.k)) (fun x => left (eT x.k) = false) cnt' (cnt' + 1) W' ∧ (∀ x ∈ T, (left (eT x.k) && !(eT x.k).sameKey (eT d.k)) = false ↔ (left (eT x.k) = false ∨ x = d)) ∧ left (eT d.k) = true := by
  obtain ⟨L2, n, Eq, B, h1, h2, h3, h4, h5, h6, h7⟩ := h
  have lts : q < w.heap.size := h1.lt.1 q (by obtain ⟨_, _, _, _, _, _, _, _, _, a6⟩ := h1; exact (a6 q).2 (.inl rfl))
  rcases h4.next hT ty with ⟨hl, hrun⟩ | ⟨d, hd, hl, W', cnt', hrun, hen, hrg, hlt, hm, hsz⟩
  · refine .inl ⟨hrun, n, Eq, B, ?_, h6, fun k hk => (h7 k hk).1⟩
    have e : L2 = T.filter fun d => decide (d.t ≤ now) := by
      refine So.eq h3 (hT.so.filter _) fun x => ?_
      rw [h2 x, List.mem_filter, decide_eq_true_iff]
      exact ⟨fun z => ⟨z.1, z.2.1⟩, fun z => ⟨z.1, z.2, hl x z.1⟩⟩
    rw [← e]; exact h1
  · have nr : ∀ k, mbk mv = some k → k ≠ r := fun k hk e => by
      rcases h4 with ⟨rfl, _⟩ | ⟨b, n, l, rfl, hrg4, _⟩
      · cases hk
      · injection hk with hk
        exact hrg4.ne (e.symm.trans hk.symm)
    refine .inr ⟨d, hd, W', cnt', hrun, hen, hsz, hlt, hm, ⟨L2, n, Eq, B, h1.mv hm (fun k hk e => (h7 k (.inl hk)).2 e) (fun k hk e => (h7 k (.inr hk)).2 e), h2, h3, hrg, by omega, h6.trans (hm.toBelow (by omega) (fun k hk e => by omega)), h7⟩, fun x hx => ?_, hl⟩
    by_cases e : x = d
    · subst e
      simp [WideAt.sameKey_self (klT _)]
    · have : (eT x.k).sameKey (eT d.k) = false := Maps.sameKey_ne fun z => e (hT.one hx hd (eT_inj z))
      rw [this]; simp [e]
/-- One that isn't due. -/
theorem DL.skip {now : Int} {T : List Du} {mv : Value} {N : Nat} {V : World} {q r : Nat} {left left' : Lit → Bool} {cnt : Nat} {w : World} {d : Du} (h : DL now T mv N V q r left' (fun x => left (eT x.k) = false) cnt (cnt + 1) w) (hd : ¬ d.t ≤ now) (hl : ∀ x ∈ T, left' (eT x.k) = false ↔ (left (eT x.k) = false ∨ x = d)) : DL now T mv N V q r left' (fun x => left' (eT x.k) = false) cnt cnt w := by
  obtain ⟨L2, n, Eq, B, h1, h2, h3, h4, h5, h6, h7⟩ := h
  refine ⟨L2, n, Eq, B, h1, fun x => ?_, h3, h4, by omega, h6, h7⟩
  rw [h2 x]
  constructor
  · rintro ⟨a, b, c⟩
    exact ⟨a, b, (hl x a).2 (.inl c)⟩
  · rintro ⟨a, b, c⟩
    rcases (hl x a).1 c with z | z
    · exact ⟨a, b, z⟩
    · subst z; exact absurd b hd
/-- One that is due. -/
theorem DL.push {now : Int} {T : List Du} {mv : Value} {N : Nat} {V : World} {q r : Nat} {left left' : Lit → Bool} {cnt : Nat} {w : World} {d : Du} (h : DL now T mv N V q r left' (fun x => left (eT x.k) = false) cnt (cnt + 1) w) (hdT : d ∈ T) (hd : d.t ≤ now) (hl : ∀ x ∈ T, left' (eT x.k) = false ↔ (left (eT x.k) = false ∨ x = d)) (hl0 : left (eT d.k) = true) (hT : T.length ≤ 100000) (hv : ∀ k, mbk mv = some k → k < q) (hq : N ≤ q) :
    Calls Tryz.prog 52 #[Qd.qp q, Qd.ev d] w fun e W => e = .returned (.tuple #[]) ∧ DL now T mv N V q r left' (fun x => left' (eT x.k) = false) cnt cnt W ∧ w.heap.size ≤ W.heap.size := by
  obtain ⟨L2, n, Eq, B, h1, h2, h3, h4, h5, h6, h7⟩ := h
  refine (Qd.push_any bfDue h1 (by omega) d).mono ?_
  rintro e W ⟨rfl, E', B', u1, m, g, gb⟩
  have lr := h4.lt
  have lqq : q < w.heap.size := h1.lt.1 q (by obtain ⟨_, _, _, _, _, _, _, _, _, a6⟩ := h1; exact (a6 q).2 (.inl rfl))
  have nd : d ∉ L2 := fun z => by have : left (eT d.k) = false := ((h2 d).1 z).2.2; rw [hl0] at this; cases this
  refine ⟨rfl, ⟨insA keyD d L2, n + 1, E', B', u1, fun x => ?_, h3.ins (fun y hy e => nd (keyD_inj e ▸ hy)), h4.mv m (fun e => (h7 r (.inl e)).2 rfl) (fun k hk e => by have := (h7 k (.inl e)).1; have := hv k hk; omega), by omega, h6.trans (m.toBelow (by omega) (fun k hk e => by have := (h7 k (.inl e)).1; omega)), fun k hk => ?_⟩, m.size⟩
  · rw [insA_mem, h2 x]
    constructor
    · rintro (z | ⟨a, b, c⟩)
      · subst z; exact ⟨hdT, hd, (hl x hdT).2 (.inr rfl)⟩
      · exact ⟨a, b, (hl x a).2 (.inl c)⟩
    · rintro ⟨a, b, c⟩
      rcases (hl x a).1 c with z | z
      · exact .inr ⟨a, b, z⟩
      · exact .inl z
  · have lq := h1.lt
    rcases hk with e | e
    · rcases g k e with s | s
      · exact h7 k (.inl s)
      · have := (h7 q (.inl (by obtain ⟨_, _, _, _, _, _, _, _, _, a6⟩ := h1; exact (a6 q).2 (.inl rfl)))).1
        have : q < w.heap.size := lq.1 q (by obtain ⟨_, _, _, _, _, _, _, _, _, a6⟩ := h1; exact (a6 q).2 (.inl rfl))
        exact ⟨by omega, by omega⟩
    · rcases gb k e with s | s
      · exact h7 k (.inr s)
      · have : q < w.heap.size := lq.1 q (by obtain ⟨_, _, _, _, _, _, _, _, _, a6⟩ := h1; exact (a6 q).2 (.inl rfl))
        exact ⟨by omega, by omega⟩
end Go.Proofs.YtdcidlgmnnaahaaGreat
/- The timers that are due, as a row. -/
namespace Go.Proofs.YtdcidlgmnnaahaaGreat
open Go.RowKit Go.Shelf Go.Lib
attribute [local go_sem] Oper.semAt_some
set_option maxRecDepth 100000 in
set_option maxHeartbeats 4000000 in
theorem due_row {now : Int} {lb n bl bn : Nat} {El : Nat → Prop} {L : List Wt} {T : List Du} (E : Nat → Prop) (W : World) (h : Lo W lb El L n T) (hbl : W.cell? ⟨bl, 0, none⟩ = some (lp lb)) (hbn : W.cell? ⟨bn, 0, none⟩ = some (.int .i64 now)) (n0 : ∀ k, El k → ¬ E k) (n1 : ¬ E bl) (n2 : ¬ E bn) :
    Row Tryz.prog 49 #[.pointer (some ⟨bl, 0, none⟩), .pointer (some ⟨bn, 0, none⟩)] Qd.encE (T.filter fun d => decide (d.t ≤ now)) E W := by
  intro u J Jx E1 V m gr hJ hJx hY h0
  have hV := h.mv m n0
  have cbl := m.cell (a := ⟨bl, 0, none⟩) n1 hbl
  have cbn := m.cell (a := ⟨bn, 0, none⟩) n2 hbn
  have lJ := hJ.low _ _ _ h0
  obtain ⟨N, hN⟩ : ∃ N, V.heap.size = N := ⟨_, rfl⟩
  obtain ⟨W1, hW1⟩ : ∃ W1, V.alloc (.cells #[.func (.yield u) #[] #[]] 88) = W1 := ⟨_, rfl⟩
  have b1 : Below V.heap.size V W1 := by rw [← hW1]; exact (Below.refl _ _).alloc (Nat.le_refl _) _
  have s1 : W1.heap.size = N + 1 := by rw [← hW1]; simp [hN]
  have y1 : W1.cell? ⟨N, 0, none⟩ = some (.func (.yield u) #[] #[]) := by rw [← hW1]; exact cell_at hN rfl
  have hT := hV.ts
  have hTl := hV.tlen
  have lEl := hV.lt.1
  have hNw : Hid (Calls Tryz.prog 50 #[.func (.func 51) #[] #[]] W1 fun e W2 => e = .returned (.pointer (some ⟨N + 1, 0, none⟩)) ∧ W2.cell? ⟨bl, 0, none⟩ = some (lp lb) ∧ ∃ mv W3 r left cnt, W2.cell? ⟨lb, 5, none⟩ = some mv ∧ (Instr.range 55 mv).run Tryz.prog W2 = .ok (.pointer (some ⟨r, 0, none⟩)) W3 ∧ DL now T mv (N + 1) W1 (N + 1) r left (fun d => left (eT d.k) = false) cnt cnt W3 ∧ (∀ k, mbk mv = some k → k < N + 1) ∧ N + 1 ≤ r) := by
    have hq := Qd.new_any (nb := nbD) rfl rfl (key := keyD) W1
    refine hq.mono ?_
    rintro e W2 ⟨rfl, qu, b2⟩
    rw [s1] at qu
    have b12 : Below N V W2 := by rw [← hN]; exact b1.trans (b2.mono (by omega))
    have hV2 := hV.below (hN ▸ b12)
    obtain ⟨mv, c5, _, tm, sub, _⟩ := hV2.tm
    obtain ⟨W3, left, cnt, hrun, rg, hall, hcnt, b3, s3⟩ := tm.range hT
    have lmv : ∀ k, mbk mv = some k → k < N := fun k hk => by have := lEl k (sub k hk).1; omega
    have s2 := b2.size
    refine ⟨by rw [s1]; rfl, bcell b12 (by have := cell_lt cbl; simp only at this; omega) cbl, mv, W3, _, left, cnt, c5, hrun, ⟨[], 0, fun k => k = N + 1, fun _ => False, qu.mv (D := fun _ => False) (Mv.below b3) (fun _ _ h => h) (fun _ _ h => h), fun d => ⟨(fun z => by cases z), fun z => ?_⟩, List.Pairwise.nil, rg, by omega, (s1 ▸ b2).trans (b3.mono (by omega)), fun k hk => ?_⟩, fun k hk => by have := lmv k hk; omega, by omega⟩
    · have z1 := hall d z.1
      have z2 : left (eT d.k) = false := z.2.2
      rw [z1] at z2; cases z2
    · rcases hk with rfl | hk
      · exact ⟨Nat.le_refl _, by have := qu.lt.1 (N + 1) rfl; omega⟩
      · exact hk.elim
  have hJH := hidP hJ
  have hJxH := hidP hJx
  have hYH := hidP hY
  have h0H := hidP h0
  have hTH := hidP hT
  have hTlH := hidP hTl
  have grH := hidP gr
  have lJH := hidP lJ
  have hYc : Hid (∀ w', Below (N + 1) W1 w' → w'.cell? ⟨N, 0, none⟩ = some (.func (.yield u) #[] #[])) := fun w' b => bcell b (by omega) y1
  have bV1H : Hid (Below N V W1) := by show Below _ _ _; rw [← hN]; exact b1
  have cbn1 : Hid (W1.cell? ⟨bn, 0, none⟩ = some (.int .i64 now)) := bcell b1 (cell_lt cbn) cbn
  have cbnH := hidP cbn
  have hNH := hidP hN
  have cbl1 : W1.cell? ⟨bl, 0, none⟩ = some (lp lb) := bcell b1 (cell_lt cbl) cbl
  have eqb : N ≤ W1.heap.size := by omega
  clear h hbl hbn n0 n1 n2 m hV cbl hJ hJx hY h0 hT hTl gr lJ y1 lEl b1 cbn s1 cbl1 eqb
  unfold lp at *
  refine (callsIn_wide (n := 5)).1 ?_
  refine callsIn_of_wp_marks Tryz.func49 rfl trivial ?_ rfl
  simp only [Tryz.ntmps49, List.size_toArray, List.length_cons, List.length_nil, Nat.reduceAdd, Nat.reduceSub, Array.replicate_succ, Array.replicate_zero, List.push_toArray, List.append_toArray, List.nil_append, List.cons_append]
  gi_wp2_with (rw [hW1])
  refine ⟨trivial, (callsIn_wide.2 hNw.out).mono ?_⟩
  rintro e W2 ⟨rfl, dbl, mv, W3, r, left, cnt, c5, hrun, hD, hv, hr⟩
  have hDH := hidP hD
  have hvH := hidP hv
  have hrH := hidP hr
  clear hNw hD hv hr hN
  gi_wp2_with fail
  gi_loopw [5, 6] (fun _ _ wr => ∃ left cnt, Hid (DL now T mv (N + 1) W1 (N + 1) r left (fun d => left (eT d.k) = false) cnt cnt wr)) (fun _ _ wr => YtdcidlgmnnaahaaGreat.mr r mv wr)
  case atStart => exact ⟨left, cnt, hDH⟩
  case round =>
    clear hDH c5 hrun dbl
    obtain ⟨left, cnt, hD⟩ := hrel
    have hms : Hid (YtdcidlgmnnaahaaGreat.mr r mv wr = cnt) := by
      obtain ⟨_, _, _, _, _, _, _, rg, _⟩ := hD.out
      exact rg.mr
    rcases hD.out.next hTH.out hvH.out (Nat.le_refl _) hrH.out 0 with ⟨hnx, n2, Eq, B, qu, bw, hge⟩ | ⟨d, hd, W', cnt', hnx, hen, hsz, hlt, hmv, hD', hl, hl0⟩
    · clear hD
      have hbwH := hidP bw
      have hsz : Hid (N < wr.heap.size) := by
        show _ < _
        have : N + 1 < wr.heap.size := qu.lt.1 (N + 1) (by obtain ⟨_, _, _, _, _, _, _, _, _, a6⟩ := qu; exact (a6 _).2 (.inl rfl))
        omega
      obtain ⟨U, hU⟩ : ∃ U, wr.alloc (.cells #[Qd.qp (N + 1)] 98) = U := ⟨_, rfl⟩
      have bU : Below wr.heap.size wr U := by rw [← hU]; exact (Below.refl _ _).alloc (Nat.le_refl _) _
      have hA := Qd.allf_any (N + 1) wr
      rw [hU] at hA
      obtain ⟨bb, hbb⟩ : ∃ bb, wr.heap.size = bb := ⟨_, rfl⟩
      have cbb : U.cell? ⟨bb, 0, none⟩ = some (Qd.qp (N + 1)) := by rw [← hU]; exact cell_at hbb rfl
      have lN := hNH.out
      have bVU : Below N V U := bV1H.out.trans ((bw.trans (bU.mono (by have := hsz.out; omega))).mono (by omega))
      have mV : Mv E1 V U := Mv.below (lN ▸ bVU)
      have quU := qu.mv (D := fun _ => False) (Mv.below bU) (fun _ _ h => h) (fun _ _ h => h)
      have hrow := Qd.allq_row bfDue (bl := bb) E1 U quU cbb (fun e => by have := lJH.out _ e; have := hsz.out; omega) (fun k hk e => by have := lJH.out _ e; have := hge k (.inl hk); omega) (fun k hk e => by have := lJH.out _ e; have := hge k (.inr hk); omega)
      have k0 : J (T.filter fun d => decide (d.t ≤ now)) E1 U := hJH.out.keep _ _ _ _ h0H.out (Mv.below (lN ▸ bVU))
      have sU : V.heap.size ≤ U.heap.size := mV.size
      have cy : U.cell? ⟨N, 0, none⟩ = some (.func (.yield u) #[] #[]) := by
        have y2 : wr.cell? ⟨N, 0, none⟩ = some (.func (.yield u) #[] #[]) := hYc.out wr bw
        exact bcell bU hsz.out y2
      have ey : ¬ E1 N := fun e => by have := lJH.out _ e; omega
      have tI := hJH.out.up sU
      have hA2 : Hid (Calls Tryz.prog 53 #[.pointer (some ⟨N + 1, 0, none⟩)] wr fun e V => e = .returned (.func (.func 68) #[] #[.pointer (some ⟨bb, 0, none⟩)]) ∧ V = U) := by rw [← hbb]; exact hA
      have hrowH := hidP hrow
      have k0H := hidP k0
      have mVH := hidP mV
      have cyH := hidP cy
      have tIH := hidP tI
      clear hA hrow k0 mV cy tI quU bVU bU cbb hU qu bw hge hbwH lN
      gi_wp2_with fail
      refine ⟨trivial, (callsIn_wide.2 hA2.out).mono ?_⟩
      rintro e V' ⟨rfl, rfl⟩
      gi_wp2_with fail
      refine loop_out (gf := 68) (lb := #[.pointer (some ⟨bb, 0, none⟩)]) rfl (enters_of Tryz.func68 (by kernel_rfl) rfl) hrowH.out (fun _ => rfl)
        J (fun c E2 W => c = Code.ret ∧ Jx () E2 W) tIH.out (((hJxH.out.comp (fun _ => ())).up sU).and (fun c => c = Code.ret)) k0H.out ?round ?done ?stop
      case round =>
        intro l1 hl1 x rest E2 U1 hi hm hg hEl hrec
        have hlt : l1 < U1.heap.size := by obtain ⟨r, hr⟩ := hrec; exact (Array.getElem?_eq_some_iff.1 hr).1
        simp only [Qd.encE]
        gi_wp2
        refine ⟨⟨Mv.alloc _ _ _, ?_⟩, fun U2 tw => ?_⟩
        · exact Below.heap_alloc _ _ _ hlt
        obtain ⟨hi2, hm2⟩ := tw.go tIH.out hi (Mv.alloc _ _ _) hm (Nat.le_refl _) hl1 hEl
        have cy2 : U2.cell? ⟨N, 0, none⟩ = some (.func (.yield u) #[] #[]) := hm2.cell ey cyH.out
        have q0 : U2.cell? ⟨U1.heap.size, 0, none⟩ = some (.string x.u) := tw.mv.cell (by show ¬ U1.heap.size = l1; omega) (cell_at rfl rfl)
        have q1 : U2.cell? ⟨U1.heap.size, 1, none⟩ = some (.string x.w) := tw.mv.cell (by show ¬ U1.heap.size = l1; omega) (cell_at rfl rfl)
        have q2 : U2.cell? ⟨U1.heap.size, 2, none⟩ = some (.int .i64 x.t) := tw.mv.cell (by show ¬ U1.heap.size = l1; omega) (cell_at rfl rfl)
        obtain ⟨fn, tmps, assign, body, hy, hR⟩ := hYH.out x rest E2 U2 hi2
        dsimp only [Qd.encE] at hy
        have hRH := hidP hR
        clear hi hm hR hi2 hm2
        gi_wp2_with fail
        refine (wide_round hRH.out).mono ?_
        rintro e W3 ⟨m3, (⟨rfl, E3, g3, hj3⟩ | ⟨rfl, E3, g3, hj3⟩)⟩
        · gi_wp2_with fail
          exact ⟨m3, E3, g3, hj3⟩
        · gi_wp2_with fail
          exact ⟨m3, E3, g3, rfl, hj3⟩
      case done =>
        intro D E2 U3 hD hK hnD hm hg hi
        gi_wp2
        refine ⟨by simp, .inl ⟨_, _, rfl, run_takeDeferred hK, ?_⟩⟩
        exact ⟨_, results_none rfl _ _ _, ⟨_, rfl⟩, (mVH.out.trans' hm).put_new (by omega) _, .inl ⟨E2, hg.mono sU, hJH.out.keep _ _ _ _ hi (.put ⟨hnD, by omega⟩ _)⟩⟩
      case stop =>
        rintro D c E2 U3 hD hK hnD hm hg ⟨rfl, hi⟩
        gi_wp2
        refine ⟨by simp, .inl ⟨_, _, rfl, run_takeDeferred hK, ?_⟩⟩
        exact ⟨_, results_none rfl _ _ _, ⟨_, rfl⟩, (mVH.out.trans' hm).put_new (by omega) _, .inr ⟨E2, hg.mono sU, hJxH.out.keep _ _ _ _ hi (.put ⟨hnD, by omega⟩ _)⟩⟩
    · obtain ⟨W4, hW4⟩ : ∃ W4, W'.alloc (.cells #[.string d.u, .string d.w] 66) = W4 := ⟨_, rfl⟩
      obtain ⟨M, hM⟩ : ∃ M, W'.heap.size = M := ⟨_, rfl⟩
      have b4 : Below W'.heap.size W' W4 := by rw [← hW4]; exact (Below.refl _ _).alloc (Nat.le_refl _) _
      have t0 : W4.cell? ⟨M, 0, none⟩ = some (.string d.u) := by rw [← hW4]; exact cell_at hM rfl
      have t1 : W4.cell? ⟨M, 1, none⟩ = some (.string d.w) := by rw [← hW4]; exact cell_at hM rfl
      have hlq : N + 1 < W'.heap.size := by
        obtain ⟨_, _, _, _, qu, _⟩ := hD'
        exact qu.lt.1 (N + 1) (by obtain ⟨_, _, _, _, _, _, _, _, _, a6⟩ := qu; exact (a6 _).2 (.inl rfl))
      have hD4 := hD'.mv b4 (by omega)
      have cbn4 : W4.cell? ⟨bn, 0, none⟩ = some (.int .i64 now) := by
        obtain ⟨_, _, _, _, _, _, _, _, _, bw, _⟩ := hD4
        exact bcell bw (by have := cell_lt cbnH.out; have := hNH.out; simp only at *; omega) cbn1.out
      have hnx' : (Instr.next (.pointer (some ⟨r, 0, none⟩)) false 0).run Tryz.prog wr = .ok (.tuple #[.bool true, .agg #[.string d.u, .string d.w], .int .i64 d.t]) W' := hnx
      have hen' : (Instr.entry (.pointer (some ⟨r, 0, none⟩))).run Tryz.prog W' = .ok (.tuple #[.agg #[.string d.u, .string d.w], .int .i64 d.t]) W' := hen
      have hms4 : ∀ W5 left2 cnt2, DL now T mv (N + 1) W1 (N + 1) r left2 (fun x => left2 (eT x.k) = false) cnt2 cnt2 W5 → cnt2 = cnt' → YtdcidlgmnnaahaaGreat.mr r mv W5 < YtdcidlgmnnaahaaGreat.mr r mv wr := fun W5 left2 cnt2 h5 e => by
        obtain ⟨_, _, _, _, _, _, _, rg, _⟩ := h5
        rw [rg.mr, hms.out, e]; exact hlt
      have hms4H := hidP hms4
      by_cases hdt : d.t ≤ now
      · have hP := hidP (hD4.push hd hdt hl hl0 hTlH.out hvH.out (Nat.le_refl _))
        clear hD hD' hD4 hl hl0 hmv hms4 hnx hen b4 hlq hsz
        gi_wp2_with (rw [hW4])
        refine ⟨trivial, (callsIn_wide.2 hP.out).mono ?_⟩
        rintro e W5 ⟨rfl, hD5, _⟩
        have hD5H := hidP hD5
        clear hD5 hP
        gi_wp2_with fail
        exact ⟨⟨_, cnt', hD5H⟩, hms4H.out W5 _ cnt' hD5H.out rfl⟩
      · have hD5H := hidP (hD4.skip hdt hl)
        clear hD hD' hD4 hl hl0 hmv hms4 hnx hen b4 hlq hsz
        gi_wp2_with (rw [hW4])
        exact ⟨⟨_, cnt', hD5H⟩, hms4H.out W4 _ cnt' hD5H.out rfl⟩
end Go.Proofs.YtdcidlgmnnaahaaGreat
