import Derived.Test.YtdcidlgmnnaahaaGreatBav
/- Rows whose order nobody knows; the values of the map of timers. -/
namespace Go.Proofs.YtdcidlgmnnaahaaGreat
open Go.RowKit Go.Shelf Go.Lib
attribute [local go_sem] Oper.semAt_some
/-- A row, for takers to whom the order is all one. -/
def RowP (P : Program) {α : Type} (g : Nat) (lb : Array Value) (enc : α → Array Value) (xs : List α) (E : Nat → Prop) (W : World) : Prop :=
  ∀ (l : Nat) (J : List α → (Nat → Prop) → World → Prop) (Jx : Unit → (Nat → Prop) → World → Prop) (E1 : Nat → Prop) (V : World),
    Mv E W V → Gr E W E1 → Ter V.heap.size J → Ter V.heap.size Jx → (∀ s s' E W, s.Perm s' → J s E W → J s' E W) → Yi P l enc J Jx → J xs E1 V →
    Calls P g (#[.func (.yield l) #[] #[]] ++ lb) V (Went J Jx E1 V)
theorem loop_outP {P : Program} {α : Type} {n : Nat} {g : Operand} {ps : Array Tmp} {assign body : Code} {Q : Exit → Act → World → Prop} {a : Act} {w : World} {gf : Nat} {lb : Array Value}
    (hg : a.eval g = .func (.func gf) #[] lb) (eg : ∀ args w, (callFunc gf args).run P w = .ok (.enter gf args) w) {enc : α → Array Value} {xs : List α} {E : Nat → Prop}
    (hrow : RowP P gf lb enc xs E w) (hps : ∀ x, (enc x).size = ps.size) (I : List α → (Nat → Prop) → World → Prop) (hpm : ∀ s s' E W, s.Perm s' → I s E W → I s' E W) (Ix : Code → (Nat → Prop) → World → Prop) (hI : Ter w.heap.size I) (hIx : Ter w.heap.size Ix) (h0 : I xs E w)
    (hround : ∀ l, w.heap.size ≤ l → RoundOk P ps assign body enc I Ix a.tmps E w l)
    (hdone : ∀ D E' W, w.heap.size ≤ D → W.heap[D]? = some (.deferred (some [])) → ¬ E' D → Mv E w W → Gr E w E' → I [] E' W → Q .normal { a with defers := { target := .collected D, args := #[] } :: a.defers } W)
    (hstop : ∀ D c E' W, w.heap.size ≤ D → W.heap[D]? = some (.deferred (some [])) → ¬ E' D → Mv E w W → Gr E w E' → Ix c E' W → c.wpIn Fence.wide n P Q { a with defers := { target := .collected D, args := #[] } :: a.defers } W) :
    (Code.rangeFunc g ps assign body).wpIn Fence.wide n P Q a w := by
  refine wpIn_rangeFunc ?_
  intro fn _
  have hlow := hI.low _ _ _ h0
  obtain ⟨W1, hW1⟩ : ∃ W1, (w.alloc (.deferred (some []))).alloc (.loop { state := .ready, pending := none, fn := fn, tmps := a.tmps, params := ps, assign := assign, body := body, defers := w.heap.size }) = W1 := ⟨_, rfl⟩
  have hL1 : W1.heap[w.heap.size + 1]? = some (.loop { state := .ready, pending := none, fn := fn, tmps := a.tmps, params := ps, assign := assign, body := body, defers := w.heap.size }) := by
    rw [← hW1]; have := World.alloc_heap_new (w.alloc (.deferred (some []))) (.loop { state := .ready, pending := none, fn := fn, tmps := a.tmps, params := ps, assign := assign, body := body, defers := w.heap.size }); rwa [World.size_alloc] at this
  have hK1 : W1.heap[w.heap.size]? = some (.deferred (some [])) := by
    rw [← hW1]; exact (Below.heap_alloc _ _ _ (by simp)).trans (World.alloc_heap_new w _)
  have hs1 : W1.heap.size = w.heap.size + 2 := by rw [← hW1]; simp
  have m1 : Mv E w W1 := by rw [← hW1]; exact (Mv.alloc _ _ _).trans' (Mv.alloc _ _ _)
  have g1 : Gr E w (fun k => E k ∨ k = w.heap.size + 1) := fun k hk => hk.imp id (fun e => by omega)
  refine ⟨w.heap.size + 1, [{ target := .collected w.heap.size, args := #[] }], W1, { target := .fn (.func gf) lb, args := #[.func (.yield (w.heap.size + 1)) #[] #[]] }, W1, gf, #[.func (.yield (w.heap.size + 1)) #[] #[]] ++ lb, W1, ?_, ?_, fun _ _ => trivial, ?_, fun h => (by cases h), callsIn_wide.2 ?_⟩
  · rw [← hW1]; exact run_enterLoop_outer _ _ _ _ _
  · simp only [resolve, hg]
    simp [go_sem]
  · simp [invoke, go_sem, eg]
  · refine (hrow (w.heap.size + 1) _ _ (fun k => E k ∨ k = w.heap.size + 1) W1 m1 g1 ?_ ?_ ?_ (yi_of_round (fn := fn) (D := w.heap.size) (by omega) (by omega) hI hIx hps (hround _ (by omega))) ?_).mono ?_
    · refine ⟨fun s E1 W V h m => ?_, fun s E1 W h k hk => ?_⟩
      · obtain ⟨E0, hE, hEl, ⟨hi, hmw, hgw⟩, hl⟩ := h
        refine ⟨E0, hE, hEl, ⟨hI.keep _ _ _ _ hi (m.out (fun k _ h => ⟨fun e => h.1 ((hE k).2 (.inl e)), by omega⟩)), ?_, hgw⟩, ?_⟩
        · exact ⟨m.os.trans hmw.os, m.tape.trans hmw.tape, m.output.trans hmw.output, Nat.le_trans hmw.size m.size, fun k hk he => (m.block k (Nat.lt_of_lt_of_le hk hmw.size) (fun h => by omega)).trans (hmw.block k hk he)⟩
        · exact (m.block _ (Array.getElem?_eq_some_iff.1 hl).1 (fun h => h.1 ((hE _).2 (.inr rfl)))).trans hl
      · obtain ⟨E0, hE, hEl, ⟨hi, hmw, hgw⟩, hl⟩ := h
        rcases (hE k).1 hk with h | rfl
        · exact hI.low _ _ _ hi k h
        · exact (Array.getElem?_eq_some_iff.1 hl).1
    · refine ⟨fun s E1 W V h m => ?_, fun s E1 W h k hk => ?_⟩
      · obtain ⟨E0, c, hE, hEl, ⟨hi, hmw, hgw⟩, hl⟩ := h
        refine ⟨E0, c, hE, hEl, ⟨hIx.keep _ _ _ _ hi (m.out (fun k _ h => ⟨fun e => h.1 ((hE k).2 (.inl e)), by omega⟩)), ?_, hgw⟩, ?_⟩
        · exact ⟨m.os.trans hmw.os, m.tape.trans hmw.tape, m.output.trans hmw.output, Nat.le_trans hmw.size m.size, fun k hk he => (m.block k (Nat.lt_of_lt_of_le hk hmw.size) (fun h => by omega)).trans (hmw.block k hk he)⟩
        · exact (m.block _ (Array.getElem?_eq_some_iff.1 hl).1 (fun h => h.1 ((hE _).2 (.inr rfl)))).trans hl
      · obtain ⟨E0, c, hE, hEl, ⟨hi, hmw, hgw⟩, hl⟩ := h
        rcases (hE k).1 hk with h | rfl
        · exact hIx.low _ _ _ hi k h
        · exact (Array.getElem?_eq_some_iff.1 hl).1
    · rintro s s' E1 W hp ⟨E0, hE, hEl, ⟨hi, hmw, hgw⟩, hl⟩
      exact ⟨E0, hE, hEl, ⟨hpm _ _ _ _ hp hi, hmw, hgw⟩, hl⟩
    · exact ⟨E, fun k => Iff.rfl, fun h => by have := hlow _ h; omega, ⟨hI.keep _ _ _ _ h0 (by rw [← hW1]; exact (Mv.alloc _ _ _).trans' (Mv.alloc _ _ _)), m1, Gr.refl _ _⟩, hL1⟩
    · rintro e W2 ⟨⟨v, rfl⟩, m2, (⟨E1, g2, E0, hE, hEl, ⟨hi, mW, gW⟩, hl⟩ | ⟨E1, g2, E0, c, hE, hEl, ⟨hi, mW, gW⟩, hl⟩)⟩
      all_goals
        have hKD : W2.heap[w.heap.size]? = some (.deferred (some [])) := (m2.block _ (by omega) (fun h => by rcases h with h | h; exact absurd (hlow _ h) (by omega); omega)).trans hK1
        have nD : ¬ E0 w.heap.size := fun h => by
          rcases g2 _ ((hE _).2 (.inl h)) with (h | h) | h
          · exact absurd (hlow _ h) (by omega)
          · omega
          · omega
      · refine ⟨none, _, run_endLoop hl (by simp), ?_⟩
        exact hdone w.heap.size E0 _ (Nat.le_refl _) ((World.putObj_heap_other (by omega)).trans hKD) nD (mW.put_new (by omega) _) gW (hI.keep _ _ _ _ hi (.put ⟨hEl, by omega⟩ _))
      · refine ⟨some c, _, run_endLoop hl (by simp), ?_⟩
        exact hstop w.heap.size c E0 _ (Nat.le_refl _) ((World.putObj_heap_other (by omega)).trans hKD) nD (mW.put_new (by omega) _) gW (hIx.keep _ _ _ _ hi (.put ⟨hEl, by omega⟩ _))
theorem perm_take {d : Du} {p p' : Du → Bool} : ∀ {T : List Du}, T.Pairwise (fun a b => a.k ≠ b.k) → d ∈ T → p d = true → (∀ x ∈ T, p' x = (p x && !(eT x.k).sameKey (eT d.k))) → (T.filter p).Perm (d :: T.filter p')
  | x :: T, hk, hd, hp, hq => by
    obtain ⟨k1, k2⟩ := List.pairwise_cons.1 hk
    have hx := hq x (List.mem_cons_self ..)
    rcases List.mem_cons.1 hd with e | hd'
    · subst e
      rw [WideAt.sameKey_self (klT _), Bool.not_true, Bool.and_false] at hx
      have e : T.filter p' = T.filter p := List.filter_congr fun y hy => by
        rw [hq y (List.mem_cons_of_mem _ hy), Maps.sameKey_ne fun z => k1 y hy (eT_inj z).symm]; simp
      rw [List.filter_cons_of_pos hp, List.filter_cons_of_neg (by rw [hx]; decide), e]
    · have hne : (eT x.k).sameKey (eT d.k) = false := Maps.sameKey_ne fun z => k1 d hd' (eT_inj z)
      rw [hne, Bool.not_false, Bool.and_true] at hx
      have ih := perm_take k2 hd' hp fun y hy => hq y (List.mem_cons_of_mem _ hy)
      cases hpx : p x with
      | true =>
        rw [List.filter_cons_of_pos hpx, List.filter_cons_of_pos (by rw [hx, hpx])]
        exact (ih.cons x).trans (List.Perm.swap ..)
      | false =>
        rw [List.filter_cons_of_neg (by rw [hpx]; decide), List.filter_cons_of_neg (by rw [hx, hpx]; decide)]
        exact ih
def encT (d : Du) : Array Value := #[.int .i64 d.t]
set_option maxRecDepth 100000 in
set_option maxHeartbeats 4000000 in
theorem values_row {bm : Nat} {mv : Value} {T : List Du} (E : Nat → Prop) (W : World) (hc : W.cell? ⟨bm, 0, none⟩ = some mv) (tm : TM W mv T) (hT : Ts T) (n0 : ¬ E bm) (n1 : ∀ k, mbk mv = some k → ¬ E k) :
    RowP Tryz.prog 55 #[.pointer (some ⟨bm, 0, none⟩)] encT T E W := by
  intro u J Jx E1 V m gr hJ hJx hpm hY h0
  have c0 := m.cell (a := ⟨bm, 0, none⟩) n0 hc
  have tV := tm.mv m n1
  have lJ := hJ.low _ _ _ h0
  have nv : Hid (∀ k, mbk mv = some k → k < V.heap.size ∧ ¬ E1 k) := fun k hk => ⟨tV.lt hk, gr.free (tm.lt hk) (n1 k hk)⟩
  obtain ⟨W3, left, cnt, hrun, rg, hall, _, b3, s3⟩ := tV.range hT
  obtain ⟨r, hr⟩ : ∃ r, V.heap.size = r := ⟨_, rfl⟩
  rw [hr] at hrun rg
  have nr : Hid (¬ E1 r ∧ r < W3.heap.size ∧ V.heap.size ≤ W3.heap.size ∧ V.heap.size = r) := ⟨fun e => by have := lJ r e; omega, by omega, b3.size, hr⟩
  have hJH := hidP hJ
  have hfil : T.filter (fun d => left (eT d.k)) = T := List.filter_eq_self.2 fun d hd => hall d hd
  have h3 : J (T.filter fun d => left (eT d.k)) E1 W3 := by rw [hfil]; exact hJ.keep _ _ _ _ h0 (Mv.below b3)
  have h3H := hidP h3
  have rgH := hidP rg
  have hYH := hidP hY
  have hTH := hidP hT
  have hpmH := hidP hpm
  have mV : Hid (Mv E1 V W3) := Mv.below b3
  clear hc tm hT n0 n1 m tV lJ hJ hJx hpm hY h0 h3 rg hall b3 s3 hfil gr hr
  refine (callsIn_wide (n := 5)).1 ?_
  refine callsIn_of_wp Tryz.func55 rfl trivial ?_ rfl
  simp only [Tryz.ntmps55, List.size_toArray, List.length_cons, List.length_nil, Nat.reduceAdd, Nat.reduceSub, Array.replicate_succ, Array.replicate_zero, List.push_toArray, List.append_toArray, List.nil_append, List.cons_append]
  gi_wp2_with fail
  gi_loopw [4] (fun _ wr => ∃ left cnt E2, Hid (Rg wr r mv T left cnt) ∧ Hid (J (T.filter fun d => left (eT d.k)) E2 wr) ∧ Hid (Mv E1 V wr) ∧ Hid (Gr E1 W3 E2) ∧ Hid (W3.heap.size ≤ wr.heap.size)) (fun _ wr => YtdcidlgmnnaahaaGreat.mr r mv wr)
  case atStart => exact ⟨left, cnt, E1, rgH, h3H, mV, Gr.refl _ _, Nat.le_refl _⟩
  case round =>
    clear rgH h3H hrun c0
    obtain ⟨left, cnt, E2, rg, hj, hm, hg, hz⟩ := hrel
    rcases rg.out.next hTH.out 0 with ⟨hall, hnx⟩ | ⟨d, hd, hl, W', cnt', hnx, hen, hrg, hlt, hmv, hsz⟩
    · have hj0 : Hid (J [] E2 wr) := by
        have e : T.filter (fun d => left (eT d.k)) = [] := List.filter_eq_nil_iff.2 fun d hd => by rw [hall d hd]; decide
        have := hj.out
        rw [e] at this; exact this
      clear hj rg hall
      gi_wp2_with fail
      go_end0
      exact ⟨⟨_, rfl⟩, hm.out, .inl ⟨E2, Gr.mono nr.out.2.2.1 hg.out, hj0.out⟩⟩
    · have hp := perm_take (p := fun d => left (eT d.k)) (p' := fun x => left (eT x.k) && !(eT x.k).sameKey (eT d.k)) hTH.out.dk hd hl (fun _ _ => rfl)
      have nE2 : ¬ E2 r := hg.out.free nr.out.2.1 nr.out.1
      have hj1 : J (d :: T.filter fun x => left (eT x.k) && !(eT x.k).sameKey (eT d.k)) E2 W' := by
        refine (hpmH.out _ _ _ _ hp (hJH.out.keep _ _ _ _ hj.out (hmv.mono fun k _ e => ⟨fun h => nE2 (e ▸ h), ?_⟩)))
        have := nr.out.2.2.2
        omega
      obtain ⟨fn, tmps, assign, body, hy, hR⟩ := hYH.out _ _ _ _ hj1
      dsimp only [encT] at hy
      have hen' : (Instr.entry (.pointer (some ⟨r, 0, none⟩))).run Tryz.prog W' = .ok (.tuple #[.agg #[.string d.u, .string d.w], .int .i64 d.t]) W' := hen
      have hnx' : (Instr.next (.pointer (some ⟨r, 0, none⟩)) false 0).run Tryz.prog wr = .ok (.tuple #[.bool true, .agg #[.string d.u, .string d.w], .int .i64 d.t]) W' := hnx
      have hmW : Hid (Mv E1 V W') := hm.out.trans (E' := fun k => k = r) (fun k hk => .inr (by have := nr.out.2.2.2; omega)) hmv
      have hzW : Hid (W3.heap.size ≤ W'.heap.size) := by show _ ≤ _; rw [hsz]; exact hz.out
      have nE2H : Hid (¬ E2 r ∧ ∀ k, mbk mv = some k → ¬ E2 k) := ⟨nE2, fun k hk => hg.out.free (Nat.lt_of_lt_of_le (nv.out k hk).1 nr.out.2.2.1) (nv.out k hk).2⟩
      have hRH := hidP hR
      have hrgH := hidP hrg
      have hms : Hid (cnt' < YtdcidlgmnnaahaaGreat.mr r mv wr) := by show _ < _; rw [rg.out.mr]; exact hlt
      clear hj rg hj1 hp hR hrg hen hnx hlt hmv hm hz nE2
      gi_wp2_with fail
      refine (wide_round' hRH.out).mono ?_
      rintro e W4 ⟨m3, (⟨rfl, E3, g3, hj3⟩ | ⟨rfl, E3, g3, hj3⟩)⟩
      · have rg4 := hidP (hrgH.out.mv m3 nE2H.out.1 nE2H.out.2)
        have fin : Hid (∃ left cnt E2, Hid (Rg W4 r mv T left cnt) ∧ Hid (J (T.filter fun d => left (eT d.k)) E2 W4) ∧ Hid (Mv E1 V W4) ∧ Hid (Gr E1 W3 E2) ∧ Hid (W3.heap.size ≤ W4.heap.size)) := ⟨_, cnt', E3, rg4, hj3, hmW.out.trans (Gr.mono nr.out.2.2.1 hg.out) m3, hg.out.trans hzW.out g3, Nat.le_trans hzW.out m3.size⟩
        have hlt4 : Hid (YtdcidlgmnnaahaaGreat.mr r mv W4 < YtdcidlgmnnaahaaGreat.mr r mv wr) := by show _ < _; rw [rg4.out.mr]; exact hms.out
        clear m3 g3 hj3 hy
        gi_wp2_with fail
        exact ⟨fin.out, hlt4.out⟩
      · have fin : Hid (Went J Jx E1 V (.returned (.tuple #[])) W4) := ⟨⟨_, rfl⟩, hmW.out.trans (Gr.mono nr.out.2.2.1 hg.out) m3, .inr ⟨E3, (Gr.mono nr.out.2.2.1 hg.out).trans (Nat.le_trans nr.out.2.2.1 hzW.out) g3, hj3⟩⟩
        clear m3 g3 hj3 hy
        gi_wp2_with fail
        refine bodyPost_ret (results_none rfl _ _ _) rfl ?_
        exact fin.out
end Go.Proofs.YtdcidlgmnnaahaaGreat
/- The least of the times that are set; Soonest on a loop. -/
namespace Go.Proofs.YtdcidlgmnnaahaaGreat
open Go.RowKit Go.Shelf Go.Lib
attribute [local go_sem] Oper.semAt_some
def IsMin (acc : Option Int) (l : List Du) : Prop := match acc with
  | none => l = []
  | some m => (∃ d ∈ l, d.t = m) ∧ ∀ d ∈ l, m ≤ d.t
def soon (T : List Du) : Option Int := T.head?.map (·.t)
theorem IsMin.perm {acc : Option Int} {l l' : List Du} (h : IsMin acc l) (hp : l.Perm l') : IsMin acc l' := by
  cases acc with
  | none =>
    have h : l = [] := h
    subst h; exact hp.nil_eq.symm
  | some m =>
    obtain ⟨⟨d, hd, e⟩, h2⟩ := h
    exact ⟨⟨d, hp.mem_iff.1 hd, e⟩, fun x hx => h2 x (hp.mem_iff.2 hx)⟩
theorem keyD_t {a b : Du} (h : keyD a < keyD b) : a.t ≤ b.t := by
  rcases (keyD_less a b).1 h with h | ⟨h, _⟩ <;> omega
theorem soon_min {T : List Du} (hT : Ts T) : IsMin (soon T) T := by
  cases T with
  | nil => rfl
  | cons d T =>
    obtain ⟨h1, _⟩ := List.pairwise_cons.1 hT.so
    refine ⟨⟨d, List.mem_cons_self .., rfl⟩, fun x hx => ?_⟩
    rcases List.mem_cons.1 hx with rfl | hx
    · exact Int.le_refl _
    · exact keyD_t (h1 x hx)
theorem IsMin.uniq {a b : Option Int} {l : List Du} (ha : IsMin a l) (hb : IsMin b l) : a = b := by
  cases a with
  | none =>
    have ha : l = [] := ha
    subst ha
    cases b with
    | none => rfl
    | some m => obtain ⟨⟨d, hd, _⟩, _⟩ := hb; cases hd
  | some m =>
    cases b with
    | none =>
      have hb : l = [] := hb
      subst hb
      obtain ⟨⟨d, hd, _⟩, _⟩ := ha; cases hd
    | some m' =>
      obtain ⟨⟨d, hd, e⟩, h2⟩ := ha
      obtain ⟨⟨d', hd', e'⟩, h2'⟩ := hb
      have := h2 d' hd'
      have := h2' d hd
      have : m = m' := by omega
      rw [this]
/-- How far the least was looked for. -/
def LI (n4 n5 : Nat) (T rest : List Du) (E : Nat → Prop) (W : World) : Prop :=
  (∀ k, E k ↔ (k = n4 ∨ k = n5)) ∧ ∃ done acc, (done ++ rest).Perm T ∧ IsMin acc done ∧ Cl n4 (.int .i64 (acc.getD 0)) W ∧ Cl n5 (.bool acc.isSome) W
theorem LI.ter {n4 n5 : Nat} {T : List Du} {B : Nat} : Ter B (LI n4 n5 T) :=
  ⟨fun s E W V h m => by
    obtain ⟨h1, done, acc, h2, h3, h4, h5⟩ := h
    exact ⟨h1, done, acc, h2, h3, h4.mv m (fun f => f.1 ((h1 n4).2 (.inl rfl))), h5.mv m (fun f => f.1 ((h1 n5).2 (.inr rfl)))⟩, fun s E W h k hk => by
    obtain ⟨h1, done, acc, h2, h3, h4, h5⟩ := h
    rcases (h1 k).1 hk with rfl | rfl
    · exact h4.lt
    · exact h5.lt⟩
def LX (_ : Code) (_ : Nat → Prop) (_ : World) : Prop := False
theorem LX.ter (B : Nat) : Ter B LX := ⟨fun _ _ _ _ h _ => h.elim, fun _ _ _ h => h.elim⟩
set_option maxRecDepth 100000 in
set_option maxHeartbeats 1000000 in
theorem values_any (p : Option Nat) (w : World) : Calls Tryz.prog 38 #[.map p] w fun e V => e = .returned (.func (.func 55) #[] #[.pointer (some ⟨w.heap.size, 0, none⟩)]) ∧ V = w.alloc (.cells #[.map p] 55) := by
  go_enter Tryz.func38, Tryz.ntmps38
  go_wp2_with fail
  go_ret
  exact ⟨rfl, rfl⟩
theorem eg_values : ∀ args w, (callFunc 55 args).run Tryz.prog w = .ok (.enter 55 args) w := enters_of Tryz.func55 (by kernel_rfl) rfl
set_option maxRecDepth 100000 in
set_option maxHeartbeats 4000000 in
theorem least_any {bm : Nat} {mv : Value} {T : List Du} (w : World) (hc : w.cell? ⟨bm, 0, none⟩ = some mv) (tm : TM w mv T) (hT : Ts T) :
    Calls Tryz.prog 37 #[.func (.func 55) #[] #[.pointer (some ⟨bm, 0, none⟩)]] w fun e V => e = .returned (.tuple #[.int .i64 ((soon T).getD 0), .bool (soon T).isSome]) ∧ Below w.heap.size w V := by
  obtain ⟨N, hN⟩ : ∃ N, w.heap.size = N := ⟨_, rfl⟩
  obtain ⟨A0, hA0⟩ : ∃ A0, (w.alloc (.cells #[.int .i64 0] 2)).alloc (.cells #[.bool false] 4) = A0 := ⟨_, rfl⟩
  obtain ⟨W0, hW0⟩ : ∃ W0, (A0.setCell ⟨N, 0, none⟩ (.int .i64 0)).setCell ⟨N + 1, 0, none⟩ (.bool false) = W0 := ⟨_, rfl⟩
  have bA : Below w.heap.size w A0 := by rw [← hA0]; exact ((Below.refl _ _).alloc (Nat.le_refl _) _).alloc (by simp) _
  have sA : A0.heap.size = N + 2 := by rw [← hA0]; simp [hN]
  have a4 : Cl N (.int .i64 0) A0 := by
    have h : Cl N (.int .i64 0) (w.alloc (.cells #[.int .i64 0] 2)) := ⟨cell_at hN rfl, froz_new hN⟩
    rw [← hA0]; exact h.mv (Mv.alloc (fun _ => False) _ _) (fun h => h)
  have a5 : Cl (N + 1) (.bool false) A0 := by rw [← hA0]; exact ⟨cell_at (by simp [hN]) rfl, froz_new (by simp [hN])⟩
  have c4 : Cl N (.int .i64 0) W0 := by rw [← hW0]; exact (a4.set _).oth (by omega) _
  have c5 : Cl (N + 1) (.bool false) W0 := by rw [← hW0]; exact (a5.oth (by omega) _).set _
  have mW : Mv (fun k => k = N ∨ k = N + 1) A0 W0 := by rw [← hW0]; exact (Mv.set1 (E := fun k => k = N ∨ k = N + 1) (.inl rfl) _).trans' (Mv.set1 (E := fun k => k = N ∨ k = N + 1) (.inr rfl) _)
  have s0 : W0.heap.size = N + 2 := by rw [← hW0]; simp [sA]
  have b0 : Below w.heap.size w W0 := bA.trans (mW.toBelow bA.size (fun k hk e => by omega))
  have x4 := a4.c
  have x5 := a5.c
  have y4 := a4.f
  have y5 := a5.f
  have hbl : bm < N := by rw [← hN]; exact cell_lt hc
  have lv : ∀ k, mbk mv = some k → k < N := fun k hk => by rw [← hN]; exact tm.lt hk
  have row := values_row (fun k => k = N ∨ k = N + 1) W0 (bcell b0 (by omega) hc) (tm.mv (E := fun _ => False) (Mv.below b0) (fun _ _ h => h)) hT (fun e => by omega) (fun k hk e => by have := lv k hk; omega)
  have i0 : LI N (N + 1) T T (fun k => k = N ∨ k = N + 1) W0 := ⟨fun _ => Iff.rfl, [], none, List.Perm.refl _, rfl, c4, c5⟩
  have hmn := hidP (soon_min hT)
  have rowH := hidP row
  have i0H := hidP i0
  have hNH := hidP hN
  have b0H := hidP b0
  have s0H := hidP s0
  clear hc tm hT c4 c5 hbl lv row i0 b0 s0 a4 a5 mW bA sA
  refine (callsIn_wide (n := 5)).1 ?_
  refine callsIn_of_wp_marks Tryz.func37 rfl trivial ?_ rfl
  simp only [Tryz.ntmps37, List.size_toArray, List.length_cons, List.length_nil, Nat.reduceAdd, Nat.reduceSub, Array.replicate_succ, Array.replicate_zero, List.push_toArray, List.append_toArray, List.nil_append, List.cons_append]
  gi_wp2_with (first | rw [hA0] | rw [hW0])
  refine loop_outP (gf := 55) (lb := #[.pointer (some ⟨bm, 0, none⟩)]) rfl eg_values rowH.out (fun _ => rfl) (LI N (N + 1) T)
    (fun s s' E W hp h => by
      obtain ⟨h1, done, acc, h2, h3⟩ := h
      exact ⟨h1, done, acc, ((List.Perm.append_left done hp).symm.trans h2), h3⟩) LX LI.ter (LX.ter _) i0H.out ?round ?done ?stop
  case round =>
    intro l1 hl1 x rest E2 U1 hi hm hg hEl hrec
    have hlt : l1 < U1.heap.size := by obtain ⟨r, hr⟩ := hrec; exact (Array.getElem?_eq_some_iff.1 hr).1
    simp only [encT]
    gi_wp2_with fail
    refine ⟨⟨Mv.refl _ _, trivial⟩, fun U2 tw => ?_⟩
    obtain ⟨hi2, hm2⟩ := tw.go LI.ter hi (Mv.refl _ _) hm (Nat.le_refl _) hl1 hEl
    obtain ⟨h1, done, acc, h2, h3, h4, h5⟩ := hi2
    have d4 := h4.c
    have d5 := h5.c
    have f4 := h4.f
    have f5 := h5.f
    have hp2 : ((done ++ [x]) ++ rest).Perm T := by rw [List.append_assoc]; exact h2
    have hset : ∀ t : Int, IsMin (some t) (done ++ [x]) → Hid (∀ V, (U2.setCell ⟨N, 0, none⟩ (.int .i64 t)).setCell ⟨N + 1, 0, none⟩ (.bool true) = V → Mv E2 U2 V ∧ ∃ E', Gr E2 U2 E' ∧ LI N (N + 1) T rest E' V) := fun t ht V hV => by
      have m4 : Mv E2 U2 (U2.setCell ⟨N, 0, none⟩ (.int .i64 t)) := Mv.set1 ((h1 N).2 (.inl rfl)) _
      have m5 : Mv E2 (U2.setCell ⟨N, 0, none⟩ (.int .i64 t)) V := by rw [← hV]; exact Mv.set1 ((h1 (N + 1)).2 (.inr rfl)) _
      refine ⟨m4.trans' m5, E2, Gr.refl _ _, h1, done ++ [x], some t, hp2, ht, ?_, ?_⟩
      · rw [← hV]; exact (h4.set _).oth (by omega) _
      · rw [← hV]; exact (h5.oth (by omega) _).set _
    cases acc with
    | none =>
      have hd : done = [] := h3
      subst hd
      have hs := hset x.t ⟨⟨x, by simp, rfl⟩, fun y hy => by simp at hy; subst hy; exact Int.le_refl _⟩
      obtain ⟨V, hV⟩ : ∃ V, (U2.setCell ⟨N, 0, none⟩ (.int .i64 x.t)).setCell ⟨N + 1, 0, none⟩ (.bool true) = V := ⟨_, rfl⟩
      have fin := hidP (hs.out V hV)
      simp only [Option.getD_none, Option.isSome_none] at d4 d5
      clear hset hs hi hm hm2 h1 h2 h3 h4 h5 hp2 hg
      gi_wp2_with (rw [hV])
      exact fin.out
    | some a =>
      obtain ⟨⟨y, hy, e⟩, h3'⟩ := h3
      simp only [Option.getD_some, Option.isSome_some] at d4 d5
      by_cases hlt2 : x.t < a
      · have hs := hset x.t ⟨⟨x, by simp, rfl⟩, fun z hz => by
          rcases List.mem_append.1 hz with hz | hz
          · have := h3' z hz; omega
          · simp at hz; subst hz; exact Int.le_refl _⟩
        obtain ⟨V, hV⟩ : ∃ V, (U2.setCell ⟨N, 0, none⟩ (.int .i64 x.t)).setCell ⟨N + 1, 0, none⟩ (.bool true) = V := ⟨_, rfl⟩
        have fin := hidP (hs.out V hV)
        clear hset hs hi hm hm2 h1 h2 h3' h4 h5 hp2 hg
        gi_wp2_with (rw [hV])
        exact fin.out
      · have fin : Hid (Mv E2 U2 U2 ∧ ∃ E', Gr E2 U2 E' ∧ LI N (N + 1) T rest E' U2) := ⟨Mv.refl _ _, E2, Gr.refl _ _, h1, done ++ [x], some a, hp2, ⟨⟨y, by simp [hy], e⟩, fun z hz => by
          rcases List.mem_append.1 hz with hz | hz
          · exact h3' z hz
          · simp at hz; subst hz; omega⟩, h4, h5⟩
        have hlf : decide (x.t < a) = false := by simpa using hlt2
        clear hset hi hm hm2 h1 h2 h3' h4 h5 hp2 hg
        gi_wp2_with fail
        exact fin.out
  case done =>
    rintro D E2 U hD hK hnD hm hg ⟨h1, done, acc, h2, h3, h4, h5⟩
    rw [List.append_nil] at h2
    have he : acc = soon T := (h3.perm h2).uniq hmn.out
    subst he
    have d4 := h4.c
    have d5 := h5.c
    have fin : Hid (∀ nq, Below w.heap.size w ((U.drewN nq).putObj D (.deferred none))) := by
      intro nq
      have h6 := hNH.out
      have h7 := s0H.out
      have hm' : Mv (fun k => k = N ∨ k = N + 1) W0 (U.drewN nq) := ⟨hm.os, hm.tape, hm.output, hm.size, hm.block⟩
      have m := (hm'.put_new (by omega) (.deferred none) : Mv (fun k => k = N ∨ k = N + 1) W0 ((U.drewN nq).putObj D (.deferred none)))
      exact b0H.out.trans (m.toBelow (by omega) (fun k hk e => by omega))
    have hKH : Hid (∀ nq, (U.drewN nq).heap[D]? = some (.deferred (some []))) := fun _ => hK
    clear h1 h2 h3 h4 h5 hm hg hK rowH i0H
    gi_wp2_with fail
    refine wpIn_wide.2 ?_
    go_quiet (fail)
    gi_wp2_with fail
    refine ⟨by simp, .inl ⟨_, _, rfl, run_takeDeferred (hKH.out nq), ?_⟩⟩
    refine ⟨_, by simp [results, Tryz.results37, go_sem]; rfl, ?_⟩
    exact ⟨rfl, fin.out nq⟩
  case stop =>
    intro D c E2 U hD hK hnD hm hg h
    exact h.elim
set_option maxRecDepth 100000 in
set_option maxHeartbeats 2000000 in
theorem soonest_any {w : World} {lb : Nat} {E : Nat → Prop} {L : List Wt} {n : Nat} {T : List Du} (h : Lo w lb E L n T) :
    Calls Tryz.prog 18 #[lp lb] w fun e V => e = .returned (.int .i64 ((soon T).getD 9223372036854775807)) ∧ Below w.heap.size w V := by
  have hT := h.ts
  obtain ⟨mv, c5, _, tm, _⟩ := h.tm
  obtain ⟨N, hN⟩ : ∃ N, w.heap.size = N := ⟨_, rfl⟩
  obtain ⟨p, rfl⟩ : ∃ p, mv = .map p := by
    rcases tm with ⟨e, _⟩ | ⟨b, e, _⟩
    · exact ⟨_, e⟩
    · exact ⟨_, e⟩
  have hv := values_any p w
  obtain ⟨W0, hW0⟩ : ∃ W0, w.alloc (.cells #[.map p] 55) = W0 := ⟨_, rfl⟩
  have b0 : Below w.heap.size w W0 := by rw [← hW0]; exact (Below.refl _ _).alloc (Nat.le_refl _) _
  have hl := least_any (bm := N) W0 (by rw [← hW0]; exact cell_at hN rfl) (tm.mv (E := fun _ => False) (Mv.below b0) (fun _ _ h => h)) hT
  rw [hW0, hN] at hv
  have b0H := hidP b0
  obtain ⟨r, hr⟩ : ∃ r, soon T = r := ⟨_, rfl⟩
  rw [hr] at hl ⊢
  clear h hT tm b0 hW0 hr
  unfold lp
  cases r with
  | none =>
    simp only [Option.getD_none, Option.isSome_none] at hl ⊢
    go_enter Tryz.func18, Tryz.ntmps18
    go_wp2_with fail
    refine hv.mono ?_
    rintro e V1 ⟨rfl, rfl⟩
    go_wp2_with fail
    refine hl.mono ?_
    rintro e V2 ⟨rfl, hb⟩
    have fin := hidP (b0H.out.trans (hb.mono b0H.out.size))
    clear hb hl hv
    go_wp2_with fail
    go_ret
    exact ⟨rfl, fin.out⟩
  | some t =>
    simp only [Option.getD_some, Option.isSome_some] at hl ⊢
    go_enter Tryz.func18, Tryz.ntmps18
    go_wp2_with fail
    refine hv.mono ?_
    rintro e V1 ⟨rfl, rfl⟩
    go_wp2_with fail
    refine hl.mono ?_
    rintro e V2 ⟨rfl, hb⟩
    have fin := hidP (b0H.out.trans (hb.mono b0H.out.size))
    clear hb hl hv
    go_wp2_with fail
    go_ret
    exact ⟨rfl, fin.out⟩
end Go.Proofs.YtdcidlgmnnaahaaGreat
