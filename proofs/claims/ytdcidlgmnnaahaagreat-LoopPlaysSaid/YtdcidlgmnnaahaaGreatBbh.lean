import Derived.Test.YtdcidlgmnnaahaaGreatBbg
import Derived.Test.YtdcidlgmnnaahaaGreatProg
import Derived.Test.YtdcidlgmnnaahaaGreatBbf
import Derived.Test.YtdcidlgmnnaahaaGreatLW5B
import Derived.Test.YtdcidlgmnnaahaaGreatBaz
/- A row of steps of LoopPlays that came in, opened. -/
namespace Go.Proofs.YtdcidlgmnnaahaaGreat
open Go.RowKit Go.ChangeShapes Go.WideShapes
/-- A step: what, the event, whose timer, which one, when. -/
structure Stp where
  wh : Int
  k : Int
  p : Int
  s : Int
  eu : ByteArray
  ex : ByteArray
  u : ByteArray
  w : ByteArray
  a : Int
def Stp.ok (x : Stp) : Prop := (Lit.int .i64 x.wh).wf = true ∧ (Lit.int .i64 x.k).wf = true ∧ (Lit.int .i64 x.a).wf = true ∧ x.eu.size ≤ 140737488355328 ∧ x.ex.size ≤ 140737488355328 ∧ x.u.size ≤ 140737488355328 ∧ x.w.size ≤ 140737488355328
/-- A step in memory. -/
def SpAt (W : World) (b o : Nat) (x : Stp) : Prop := W.cell? ⟨b, o, none⟩ = some (.int .i64 x.wh) ∧ W.cell? ⟨b, o + 1, none⟩ = some (.int .i64 x.k) ∧ W.cell? ⟨b, o + 2, none⟩ = some (.int .i64 x.p) ∧ W.cell? ⟨b, o + 3, none⟩ = some (.int .i64 x.s) ∧ W.cell? ⟨b, o + 4, none⟩ = some (.string x.eu) ∧ W.cell? ⟨b, o + 5, none⟩ = some (.string x.ex) ∧ W.cell? ⟨b, o + 6, none⟩ = some (.string x.u) ∧ W.cell? ⟨b, o + 7, none⟩ = some (.string x.w) ∧ W.cell? ⟨b, o + 8, none⟩ = some (.int .i64 x.a)
/-- A row of steps in memory. -/
def StepsAt (W : World) (p : Option Addr) (l : List Stp) : Prop :=
  ∀ (i : Nat) (x : Stp), l[i]? = some x → x.ok ∧ ∃ b o, p = some ⟨b, o, none⟩ ∧ SpAt W b (o + i * 9) x
theorem cSt : Tryz.prog.cellsOf 34 = 9 := by kernel_rfl
theorem cEv : Tryz.prog.cellsOf 32 = 5 := by kernel_rfl
theorem cIS : Tryz.prog.cellsOf 3 = 1 := by kernel_rfl
theorem cI6 : Tryz.prog.cellsOf 2 = 1 := by kernel_rfl
theorem cSS : Tryz.prog.cellsOf 9 = 1 := by kernel_rfl
theorem bSt : Tryz.prog.bytesOf 34 = 104 := by kernel_rfl
set_option maxRecDepth 100000 in
theorem rd_event {W : World} {cs : List Value} (h : Rd Tryz.prog W 32 cs) : ∃ (k p s : Int) (u x : ByteArray), (Lit.int .i64 k).wf = true ∧ u.size ≤ 140737488355328 ∧ x.size ≤ 140737488355328 ∧ cs = [.int .i64 k, .int .i64 p, .int .i64 s, .string u, .string x] := by
  obtain ⟨hl, hx⟩ := rd_struct h Tryz.underlying32
  rw [cEv] at hl
  match cs, hl with
  | [c0, c1, c2, c3, c4], _ =>
    have h0 := hx 0 _ rfl
    have h1 := hx 1 _ rfl
    have h2 := hx 2 _ rfl
    have h3 := hx 3 _ rfl
    have h4 := hx 4 _ rfl
    simp only [List.getElem_toArray, List.getElem_cons_zero, List.getElem_cons_succ, cIS, cSS, List.drop_zero, List.drop_succ_cons, List.take_succ_cons, List.take_zero] at h0 h1 h2 h3 h4
    obtain ⟨a, e0, w0⟩ := rd_int h0 Tryz.underlying3
    obtain ⟨b, e1, w1⟩ := rd_int h1 Tryz.underlying3
    obtain ⟨c, e2, w2⟩ := rd_int h2 Tryz.underlying3
    obtain ⟨s, e3, w3⟩ := rd_string h3 Tryz.underlying9
    obtain ⟨u, e4, w4⟩ := rd_string h4 Tryz.underlying9
    simp only [List.cons.injEq, and_true] at e0 e1 e2 e3 e4
    subst e0 e1 e2 e3 e4
    exact ⟨a, b, c, s, u, w0, w3, w4, rfl⟩
set_option maxRecDepth 100000 in
theorem rd_step {W : World} {cs : List Value} (h : Rd Tryz.prog W 34 cs) : ∃ x : Stp, x.ok ∧ cs = [.int .i64 x.wh, .int .i64 x.k, .int .i64 x.p, .int .i64 x.s, .string x.eu, .string x.ex, .string x.u, .string x.w, .int .i64 x.a] := by
  obtain ⟨hl, hx⟩ := rd_struct h Tryz.underlying34
  rw [cSt] at hl
  match cs, hl with
  | [c0, c1, c2, c3, c4, c5, c6, c7, c8], _ =>
    have h0 := hx 0 _ rfl
    have h1 := hx 1 _ rfl
    have h2 := hx 2 _ rfl
    have h3 := hx 3 _ rfl
    have h4 := hx 4 _ rfl
    simp only [List.getElem_toArray, List.getElem_cons_zero, List.getElem_cons_succ, cIS, cSS, cEv, cI6, List.drop_zero, List.drop_succ_cons, List.take_succ_cons, List.take_zero] at h0 h1 h2 h3 h4
    obtain ⟨a, e0, w0⟩ := rd_int h0 Tryz.underlying3
    obtain ⟨k, p, s, eu, ex, w1, w1', w1'', e1⟩ := rd_event h1
    obtain ⟨u, e2, w2⟩ := rd_string h2 Tryz.underlying9
    obtain ⟨v, e3, w3⟩ := rd_string h3 Tryz.underlying9
    obtain ⟨t, e4, w4⟩ := rd_int h4 Tryz.underlying2
    simp only [List.cons.injEq, and_true] at e0 e1 e2 e3 e4
    obtain ⟨e1, e5, e6, e7, e8⟩ := e1
    subst e0 e1 e2 e3 e4 e5 e6 e7 e8
    exact ⟨⟨a, k, p, s, eu, ex, u, v, t⟩, ⟨w0, w1, w4, w1', w1'', w2, w3⟩, rfl⟩
set_option maxRecDepth 100000 in
theorem rd_steps {W : World} {v : Value} (h : Rd Tryz.prog W 22 [v]) : ∃ (p : Option Addr) (cap : Nat) (l : List Stp), v = .slice p l.length cap ∧ StepsAt W p l ∧ l.length ≤ 140737488355328 := by
  letI : Inhabited Stp := ⟨⟨0, 0, 0, 0, ⟨#[]⟩, ⟨#[]⟩, ⟨#[]⟩, ⟨#[]⟩, 0⟩⟩
  rcases rd_slice h Tryz.underlying22 with e | ⟨a, len, cap, e, hlc, _, hby, hx⟩
  · simp only [List.cons.injEq, and_true] at e
    subst e
    exact ⟨none, 0, [], rfl, fun i q hq => by simp at hq, by simp⟩
  · simp only [List.cons.injEq, and_true] at e
    subst e
    rw [bSt] at hby
    unfold reachBytes at hby
    obtain ⟨f, hf⟩ := Go.Deep.choose_lt (α := Stp) (n := len) (p := fun i x => x.ok ∧ ∃ cs', W.cells? 0 (a.add (i * Tryz.prog.cellsOf 34)) (Tryz.prog.cellsOf 34) = some cs' ∧ cs' = [.int .i64 x.wh, .int .i64 x.k, .int .i64 x.p, .int .i64 x.s, .string x.eu, .string x.ex, .string x.u, .string x.w, .int .i64 x.a]) (fun i hi => by
      obtain ⟨cs', h1, h2⟩ := hx i hi
      obtain ⟨q, hok, hq⟩ := rd_step h2
      exact ⟨q, hok, cs', h1, hq⟩)
    have hln : ((List.range len).map f).length = len := by simp
    refine ⟨some a, cap, (List.range len).map f, by rw [hln], fun i x hq => ?_, by rw [hln]; omega⟩
    have hi : i < len := by have := (List.getElem?_eq_some_iff.1 hq).1; rwa [hln] at this
    have hq' : f i = x := by
      rw [List.getElem?_map, List.getElem?_range hi] at hq
      simpa using hq
    obtain ⟨hok, cs', h1, h2⟩ := hf i hi
    rw [hq'] at h2 hok
    rw [cSt] at h1
    obtain ⟨_, hc⟩ := rd_cell h1
    obtain ⟨b, o, spot⟩ := a
    have hspot : spot = none := by
      obtain ⟨_, cs0, g1, g2⟩ := hf 0 (by omega)
      rw [cSt] at g1
      have c0 := (rd_cell g1).2 0 (by omega)
      rw [g2] at c0
      have := World.cell?_spot c0
      simpa [Addr.add] using this
    subst hspot
    have c0 := hc 0 (by omega)
    have c1 := hc 1 (by omega)
    have c2 := hc 2 (by omega)
    have c3 := hc 3 (by omega)
    have c4 := hc 4 (by omega)
    have c5 := hc 5 (by omega)
    have c6 := hc 6 (by omega)
    have c7 := hc 7 (by omega)
    have c8 := hc 8 (by omega)
    rw [h2] at c0 c1 c2 c3 c4 c5 c6 c7 c8
    simp only [Go.WideShapes.add_plain] at c0 c1 c2 c3 c4 c5 c6 c7 c8
    exact ⟨hok, b, o, rfl, by simpa using c0, by simpa using c1, by simpa using c2, by simpa using c3, by simpa using c4, by simpa using c5, by simpa using c6, by simpa using c7, by simpa using c8⟩
theorem rd_steps2 {W : World} {a : Option Addr} {len cap : Nat} (h : Rd Tryz.prog W 22 [.slice a len cap]) : ∃ l : List Stp, l.length = len ∧ StepsAt W a l ∧ len ≤ 140737488355328 := by
  obtain ⟨p, c, l, e, h1, h2⟩ := rd_steps h
  injection e with e1 e2 e3
  subst e1
  exact ⟨l, e2.symm, h1, by omega⟩
end Go.Proofs.YtdcidlgmnnaahaaGreat
/- LoopPlays: each call of both. -/
namespace Go.Proofs.YtdcidlgmnnaahaaGreat
open Go.RowKit Go.Shelf Go.Lib
/-- A step, copied, in a block. -/
def Dx (D : Nat) (x : Stp) (W : World) : Prop := W.cell? ⟨D, 0, none⟩ = some (.int .i64 x.wh) ∧ W.cell? ⟨D, 1, none⟩ = some (.int .i64 x.k) ∧ W.cell? ⟨D, 2, none⟩ = some (.int .i64 x.p) ∧ W.cell? ⟨D, 3, none⟩ = some (.int .i64 x.s) ∧ W.cell? ⟨D, 4, none⟩ = some (.string x.eu) ∧ W.cell? ⟨D, 5, none⟩ = some (.string x.ex) ∧ W.cell? ⟨D, 6, none⟩ = some (.string x.u) ∧ W.cell? ⟨D, 7, none⟩ = some (.string x.w) ∧ W.cell? ⟨D, 8, none⟩ = some (.int .i64 x.a)
theorem Dx.mv {F : Nat → Prop} {D : Nat} {x : Stp} {W V : World} (h : Dx D x W) (m : Mv F W V) (hF : ¬ F D) : Dx D x V := by
  obtain ⟨h0, h1, h2, h3, h4, h5, h6, h7, h8⟩ := h
  exact ⟨m.cell (a := ⟨D, 0, none⟩) hF h0, m.cell (a := ⟨D, 1, none⟩) hF h1, m.cell (a := ⟨D, 2, none⟩) hF h2, m.cell (a := ⟨D, 3, none⟩) hF h3, m.cell (a := ⟨D, 4, none⟩) hF h4, m.cell (a := ⟨D, 5, none⟩) hF h5, m.cell (a := ⟨D, 6, none⟩) hF h6, m.cell (a := ⟨D, 7, none⟩) hF h7, m.cell (a := ⟨D, 8, none⟩) hF h8⟩
theorem Ks.ins {v : Wt} : ∀ {L : List Wt}, Ks L → Ks (insA keyW v L)
  | [], _ => List.pairwise_singleton _ _
  | y :: L, h => by
    obtain ⟨h1, h2⟩ := List.pairwise_cons.1 h
    unfold insA
    split
    · next e =>
      refine List.pairwise_cons.2 ⟨fun z hz => ?_, h⟩
      rcases List.mem_cons.1 hz with rfl | hz
      · omega
      · have := h1 z hz; omega
    · next e =>
      refine List.pairwise_cons.2 ⟨fun z hz => ?_, Ks.ins h2⟩
      rcases (insA_mem keyW v z L).1 hz with rfl | hz
      · omega
      · exact h1 z hz
/-- Between two calls: c bounds all that is counted. -/
structure Pq (w : World) (lb rb D c : Nat) (L : List Wt) (n : Nat) (T : List Du) (x : Stp) (W : World) : Prop where
  m : Lp w (fun k => k = D) lb rb L n T L T W
  s : Ks L
  t : ∀ d ∈ T, d.t ≤ 9223372036854775807
  d : Dx D x W
  ll : L.length ≤ c
  tl : T.length ≤ c
  nl : n ≤ c
theorem Pq.below {w : World} {lb rb D c : Nat} {L : List Wt} {n : Nat} {T : List Du} {x : Stp} {W V : World} (h : Pq w lb rb D c L n T x W) (b : Below W.heap.size W V) : Pq w lb rb D c L n T x V :=
  ⟨h.m.below b, h.s, h.t, h.d.mv (F := fun _ => False) (Mv.below b) (fun f => f), h.ll, h.tl, h.nl⟩
/-- One call further on. -/
def Nx (w : World) (lb rb D c : Nat) (x : Stp) (W : World) : Prop := ∃ L n T, Pq w lb rb D (c + 1) L n T x W
theorem Nx.below {w : World} {lb rb D c : Nat} {x : Stp} {W V : World} (h : Nx w lb rb D c x W) (b : Below W.heap.size W V) : Nx w lb rb D c x V := by
  obtain ⟨L, n, T, h⟩ := h
  exact ⟨L, n, T, h.below b⟩
abbrev evS (x : Stp) : Value := .agg #[.int .i64 x.k, .int .i64 x.p, .int .i64 x.s, .string x.eu, .string x.ex]
section
variable {w : World} {lb rb D c : Nat} {L : List Wt} {n : Nat} {T : List Du} {x : Stp} {W : World}
theorem keepD {V V1 : World} (m : Mv (fun k => ¬ k = D) V V1) (h : Dx D x V) : Dx D x V1 := h.mv m (fun f => f rfl)
theorem push_two (h : Pq w lb rb D c L n T x W) (hc : c ≤ 900) : ∃ ev : Int, ∀ V, Below W.heap.size W V →
    Calls Tryz.prog 6 #[.pointer (some ⟨lb, 0, none⟩), evS x] V fun e V1 => e = .returned (.int .i64 ev) ∧ Dx D x V1 ∧
      Calls Tryz.prog 7 #[.pointer (some ⟨rb, 0, none⟩), evS x] V1 fun e V2 => e = .returned (.int .i64 ev) ∧ Dx D x V2 ∧ Nx w lb rb D c x V2 := by
  by_cases hk : 1 ≤ x.k ∧ x.k ≤ 6
  · refine ⟨0, fun V b => ?_⟩
    have hV := h.below b
    have hn : n < 100000 := by have := h.nl; omega
    refine (hV.m.code (R := fun e _ => e = .returned (.int .i64 0)) (fun E hE => pushl_any hE hn x.k x.p x.s x.eu x.ex hk.1 hk.2)).mono ?_
    rintro e V1 ⟨rfl, m1, mv1⟩
    have d1 := keepD mv1 hV.d
    refine ⟨rfl, d1, (m1.ref (R := fun e _ => e = .returned (.int .i64 0)) (fun F hF => rpush_any hF h.s (by have := h.ll; omega) hn h.m.nl x.k x.p x.s x.eu x.ex hk.1 hk.2)).mono ?_⟩
    rintro e V2 ⟨rfl, m2, mv2⟩
    have d2 := keepD mv2 d1
    exact ⟨rfl, d2, _, _, _, m2, h.s.ins, h.t, d2, by rw [insA_len]; have := h.ll; omega, by have := h.tl; omega, by have := h.nl; omega⟩
  · have hk' : x.k < 1 ∨ 6 < x.k := by omega
    refine ⟨140, fun V b => ?_⟩
    have hV := h.below b
    refine (hV.m.code (R := fun e _ => e = .returned (.int .i64 140)) (fun E hE => pushl_bad hE x.k x.p x.s x.eu x.ex hk')).mono ?_
    rintro e V1 ⟨rfl, m1, mv1⟩
    have d1 := keepD mv1 hV.d
    refine ⟨rfl, d1, (m1.ref (R := fun e _ => e = .returned (.int .i64 140)) (fun F hF => rpush_bad hF x.k x.p x.s x.eu x.ex hk')).mono ?_⟩
    rintro e V2 ⟨rfl, m2, mv2⟩
    have d2 := keepD mv2 d1
    exact ⟨rfl, d2, _, _, _, m2, h.s, h.t, d2, by have := h.ll; omega, by have := h.tl; omega, by have := h.nl; omega⟩
theorem forget_two (h : Pq w lb rb D c L n T x W) (hc : c ≤ 900) : ∃ ev : Int, ∀ V, Below W.heap.size W V →
    Calls Tryz.prog 15 #[.pointer (some ⟨lb, 0, none⟩), .string x.u] V fun e V1 => e = .returned (.int .i64 ev) ∧ Dx D x V1 ∧
      Calls Tryz.prog 16 #[.pointer (some ⟨rb, 0, none⟩), .string x.u] V1 fun e V2 => e = .returned (.int .i64 ev) ∧ Dx D x V2 ∧ Nx w lb rb D c x V2 := by
  refine ⟨((T.length : Int) - (goneT x.u T).length) + ((L.length : Int) - (goneL x.u L).length), fun V b => ?_⟩
  have hV := h.below b
  refine (hV.m.code (R := fun e _ => e = .returned (.int .i64 (((T.length : Int) - (goneT x.u T).length) + ((L.length : Int) - (goneL x.u L).length)))) (fun E hE => forget_any hE x.u)).mono ?_
  rintro e V1 ⟨rfl, m1, mv1⟩
  have d1 := keepD mv1 hV.d
  refine ⟨rfl, d1, (m1.ref (R := fun e _ => e = .returned (.int .i64 (((T.length : Int) - (goneT x.u T).length) + ((L.length : Int) - (goneL x.u L).length)))) (fun F hF => rforget_any hF (by have := h.tl; omega) (by have := h.ll; omega) x.u)).mono ?_⟩
  rintro e V2 ⟨rfl, m2, mv2⟩
  have d2 := keepD mv2 d1
  have l1 : (goneL x.u L).length ≤ L.length := List.length_filter_le _ _
  have l2 : (goneT x.u T).length ≤ T.length := List.length_filter_le _ _
  exact ⟨rfl, d2, _, _, _, m2, List.Pairwise.filter _ h.s, fun d hd => h.t d ((List.mem_filter.1 hd).1), d2, by have := h.ll; omega, by have := h.tl; omega, by have := h.nl; omega⟩
theorem next_two (h : Pq w lb rb D c L n T x W) : ∃ (k p s : Int) (u t : ByteArray) (b : Bool),
    Calls Tryz.prog 8 #[.pointer (some ⟨lb, 0, none⟩)] W fun e V => e = .returned (.tuple #[.agg #[.int .i64 k, .int .i64 p, .int .i64 s, .string u, .string t], .bool b]) ∧ ∀ V' bp, Below V.heap.size V V' → V.heap.size ≤ bp → bp < V'.heap.size → Dx D x V' ∧
      Calls Tryz.prog 9 #[.pointer (some ⟨rb, 0, none⟩)] V' fun e V2 => e = .returned (.tuple #[.agg #[.int .i64 k, .int .i64 p, .int .i64 s, .string u, .string t], .bool b]) ∧ Mv (fun k => ¬ (k = D ∨ k = bp)) V' V2 ∧ Nx w lb rb D c x V2 := by
  have fin : ∀ {L' : List Wt} {V2 : World} {bp : Nat}, L'.length ≤ L.length → Ks L' → Lp w (fun k => k = D ∨ k = bp) lb rb L' n T L' T V2 → Dx D x V2 → Nx w lb rb D c x V2 := fun hl hs m d => ⟨_, _, _, m.next (F := fun _ => False) (Mv.refl _ _) (fun _ f => f.elim) (fun k hk => .inl (.inl hk)), hs, h.t, d, by have := h.ll; omega, by have := h.tl; omega, by have := h.nl; omega⟩
  cases L with
  | nil =>
    refine ⟨0, 0, 0, ⟨#[]⟩, ⟨#[]⟩, false, (h.m.code (R := fun e _ => e = .returned (.tuple #[.agg #[.int .i64 0, .int .i64 0, .int .i64 0, .string ⟨#[]⟩, .string ⟨#[]⟩], .bool false])) (fun E hE => (nextl_none hE).mono fun _ _ q => ⟨q.1, hE.same q.2⟩)).mono ?_⟩
    rintro e V ⟨rfl, m, mv⟩
    refine ⟨rfl, fun V' bp b h1 h2 => ?_⟩
    have d' := (keepD mv h.d).mv (F := fun _ => False) (Mv.below b) (fun f => f)
    have m' : Lp w (fun k => k = D ∨ k = bp) lb rb [] n T [] T V' := m.next (F := fun _ => False) (Mv.below b) (fun _ f => f.elim) (fun k hk => hk.imp id (fun e => by omega))
    refine ⟨d', (m'.ref (R := fun e _ => e = .returned (.tuple #[.agg #[.int .i64 0, .int .i64 0, .int .i64 0, .string ⟨#[]⟩, .string ⟨#[]⟩], .bool false])) (fun F hF => (rnext_none hF).mono fun _ _ q => ⟨q.1, hF.same q.2⟩)).mono ?_⟩
    rintro e V2 ⟨rfl, m2, mv2⟩
    exact ⟨rfl, mv2, fin (by simp) h.s m2 (d'.mv mv2 (fun f => f (.inl rfl)))⟩
  | cons y L =>
    refine ⟨y.k, y.p, y.s, y.u, y.x, true, (h.m.code (R := fun e _ => e = .returned (.tuple #[.agg #[.int .i64 y.k, .int .i64 y.p, .int .i64 y.s, .string y.u, .string y.x], .bool true])) (fun E hE => nextl_some hE)).mono ?_⟩
    rintro e V ⟨rfl, m, mv⟩
    refine ⟨rfl, fun V' bp b h1 h2 => ?_⟩
    have d' := (keepD mv h.d).mv (F := fun _ => False) (Mv.below b) (fun f => f)
    have m' : Lp w (fun k => k = D ∨ k = bp) lb rb L n T (y :: L) T V' := m.next (F := fun _ => False) (Mv.below b) (fun _ f => f.elim) (fun k hk => hk.imp id (fun e => by omega))
    refine ⟨d', (m'.ref (L2' := L) (T2' := T) (R := fun e _ => e = .returned (.tuple #[.agg #[.int .i64 y.k, .int .i64 y.p, .int .i64 y.s, .string y.u, .string y.x], .bool true])) (fun F hF => (rnext_some hF).mono fun _ _ q => ⟨q.1, by obtain ⟨_, q1, F', q2, q3⟩ := q; exact ⟨F', q3, q1, q2⟩⟩)).mono ?_⟩
    rintro e V2 ⟨rfl, m2, mv2⟩
    exact ⟨rfl, mv2, fin (by simp) (List.pairwise_cons.1 h.s).2 m2 (d'.mv mv2 (fun f => f (.inl rfl)))⟩
theorem set_two (h : Pq w lb rb D c L n T x W) (hc : c ≤ 900) (hu : x.u.toList.length ≤ 300) (hw : x.w.toList.length ≤ 300) (ha : x.a ≤ 9223372036854775807) :
    Calls Tryz.prog 10 #[.pointer (some ⟨lb, 0, none⟩), .string x.u, .string x.w, .int .i64 x.a] W fun e V1 => e = .returned (.tuple #[]) ∧ Dx D x V1 ∧
      Calls Tryz.prog 11 #[.pointer (some ⟨rb, 0, none⟩), .string x.u, .string x.w, .int .i64 x.a] V1 fun e V2 => e = .returned (.tuple #[]) ∧ Dx D x V2 ∧ Nx w lb rb D c x V2 := by
  obtain ⟨K, hK⟩ : ∃ K : TK, K = ⟨(x.u, x.w), hu, hw⟩ := ⟨_, rfl⟩
  have hCode : Calls Tryz.prog 10 #[.pointer (some ⟨lb, 0, none⟩), .string x.u, .string x.w, .int .i64 x.a] W fun e V => e = .returned (.tuple #[]) ∧ Lp w (fun k => k = D) lb rb L n (setP K x.a T) L T V ∧ Mv (fun k => ¬ k = D) W V := by
    refine h.m.code (R := fun e _ => e = .returned (.tuple #[])) (fun E hE => ?_)
    unfold setP
    by_cases e : x.a = 9223372036854775807
    · rw [if_pos e, e]
      have := setl_never hE K
      rw [hK] at this ⊢
      exact this
    · rw [if_neg e]
      have := setl_any hE K x.a e (by have := h.tl; omega)
      rw [hK] at this ⊢
      exact this
  refine hCode.mono ?_
  rintro e V1 ⟨rfl, m1, mv1⟩
  have d1 := keepD mv1 h.d
  refine ⟨rfl, d1, (m1.ref (L2' := L) (T2' := setP K x.a T) (R := fun e _ => e = .returned (.tuple #[])) (fun F hF => by
    have := rset_any hF (by have := h.tl; omega) K x.a
    rw [hK] at this ⊢
    exact this)).mono ?_⟩
  rintro e V2 ⟨rfl, m2, mv2⟩
  have d2 := keepD mv2 d1
  have lS : (setP K x.a T).length ≤ T.length + 1 := by
    unfold setP
    split
    · exact Nat.le_succ_of_le (List.length_filter_le _ _)
    · exact setT_len _ _ _
  refine ⟨rfl, d2, _, _, _, m2, h.s, fun d hd => ?_, d2, by have := h.ll; omega, by have := h.tl; omega, by have := h.nl; omega⟩
  unfold setP at hd
  split at hd
  · exact h.t d (delT_mem.1 hd).1
  · rcases setT_mem.1 hd with e | e
    · rw [e]; exact ha
    · exact h.t d e.1
theorem elapse_two (h : Pq w lb rb D c L n T x W) (hc : c ≤ 900) : ∀ V, Below W.heap.size W V →
    Calls Tryz.prog 13 #[.pointer (some ⟨lb, 0, none⟩), .int .i64 x.a] V fun e V1 => ∃ p n1 c1, e = .returned (.slice p n1 c1) ∧ Dx D x V1 ∧
      Calls Tryz.prog 14 #[.pointer (some ⟨rb, 0, none⟩), .int .i64 x.a] V1 fun e V2 => ∃ p2 n2 c2, e = .returned (.slice p2 n2 c2) ∧ Dx D x V2 ∧
        Calls Tryz.prog 12 #[.slice p n1 c1, .slice p2 n2 c2] V2 fun e V3 => e = .returned (.bool true) ∧ Dx D x V3 ∧ Nx w lb rb D c x V3 := fun V b => by
  have hV := h.below b
  obtain ⟨E, F, h1, h2, h3, h4, h5, h6⟩ := hV.m
  have hts := h1.ts
  refine (elapse_any h1 x.a).mono ?_
  rintro e V1 ⟨v, rfl, sv, lo, mv, hv⟩
  obtain ⟨p, c1, rfl⟩ := sv.shape
  have sz := mv.size
  have nE : ¬ E D := fun e => (h4 D (.inl e)).2 rfl
  have nF : ¬ F D := fun e => (h4 D (.inr e)).2 rfl
  have d1 := hV.d.mv mv nE
  have r1 := h2.mv mv (fun k f e => h3 k e f)
  refine ⟨p, _, c1, rfl, d1, (relapse_any r1 hts (by have := h.tl; omega) x.a).mono ?_⟩
  rintro e V2 ⟨⟨p2, n2, c2, rfl, su⟩, F', r2, mv2, gr⟩
  have d2 := d1.mv mv2 nF
  have sv2 := sv.mv mv2 (fun k hk f => by have := hv k hk; have := h2.lt f; omega)
  have lo2 := lo.mv mv2 (fun k e f => h3 k e f)
  have hl : (dueT x.a T).length ≤ T.length := List.length_filter_le _ _
  have hl2 : (restT x.a T).length ≤ T.length := List.length_filter_le _ _
  refine ⟨p2, n2, c2, rfl, d2, (dues_same sv2 su (by have := h.tl; show (dueT x.a T).length ≤ _; omega)).mono ?_⟩
  rintro e V3 ⟨rfl, b3⟩
  have d3 := d2.mv (F := fun _ => False) (Mv.below b3) (fun f => f)
  have bw : Below w.heap.size w V2 := (h6.trans (mv.toBelow h6.size fun k hk e => by have := (h4 k (.inl e)).1; omega)).trans (mv2.toBelow (by have := h6.size; omega) fun k hk e => by have := (h4 k (.inr e)).1; omega)
  have m2 : Lp w (fun k => k = D) lb rb L n (restT x.a T) L (restT x.a T) V2 := ⟨E, F', lo2, r2, fun k e f => (gr k f).elim (h3 k e) (fun s => by have := h1.lt.1 k e; omega), fun k hk => hk.elim (fun e => h4 k (.inl e)) (fun f => (gr k f).elim (fun f => h4 k (.inr f)) (fun s => ⟨by have := h6.size; omega, fun p => by have := h5 k p; omega⟩)), fun k p => by have := h5 k p; have := mv2.size; omega, bw⟩
  exact ⟨rfl, d3, _, _, _, m2.below b3, h.s, fun d hd => h.t d ((List.mem_filter.1 hd).1), d3, by have := h.ll; omega, by have := h.tl; omega, by have := h.nl; omega⟩
end
end Go.Proofs.YtdcidlgmnnaahaaGreat
/- LoopPlays: what is asked behind each step. -/
namespace Go.Proofs.YtdcidlgmnnaahaaGreat
open Go.RowKit Go.Shelf Go.Lib
/-- What the tail reads of the document's loop. -/
def Rc (rb : Nat) (pe : Option Addr) (ne ce : Nat) (pt : Option Addr) (nt ct : Nat) (W : World) : Prop := W.cell? ⟨rb, 0, none⟩ = some (.slice pe ne ce) ∧ W.cell? ⟨rb, 1, none⟩ = some (.slice pt nt ct)
theorem Rc.below {rb : Nat} {pe pt : Option Addr} {ne ce nt ct : Nat} {W V : World} (h : Rc rb pe ne ce pt nt ct W) (b : Below W.heap.size W V) : Rc rb pe ne ce pt nt ct V := ⟨bcell b (cell_lt h.1) h.1, bcell b (cell_lt h.2) h.2⟩
/-- A call that tells v and leaves what lay there. -/
def Tells (W : World) (f : Nat) (args : Array Value) (v : Value) : Prop := ∀ V, Below W.heap.size W V → Calls Tryz.prog f args V fun e V2 => e = .returned v ∧ Below V.heap.size V V2
/-- A row is told, and it is what lies there. -/
def Rows2 (W : World) (f : Nat) (args : Array Value) (g : Nat) (u : Value) : Prop := ∀ V, Below W.heap.size W V → Calls Tryz.prog f args V fun e V2 => ∃ p n c, e = .returned (.slice p n c) ∧ Below V.heap.size V V2 ∧ Calls Tryz.prog g #[.slice p n c, u] V2 fun e V3 => e = .returned (.bool true) ∧ Below V2.heap.size V2 V3
structure Tail (lb rb : Nat) (x : Stp) (W : World) (pe : Option Addr) (ne ce : Nat) (pt : Option Addr) (nt ct : Nat) (sn av : Int) : Prop where
  c : Rc rb pe ne ce pt nt ct W
  len : Tells W 17 #[.pointer (some ⟨lb, 0, none⟩)] (.int .i64 ne)
  so : Tells W 18 #[.pointer (some ⟨lb, 0, none⟩)] (.int .i64 sn)
  sr : Tells W 19 #[.pointer (some ⟨rb, 0, none⟩)] (.int .i64 sn)
  ac : Tells W 20 #[.pointer (some ⟨lb, 0, none⟩), .string x.u, .string x.w] (.int .i64 av)
  ar : Tells W 21 #[.pointer (some ⟨rb, 0, none⟩), .string x.u, .string x.w] (.int .i64 av)
  ev : Rows2 W 23 #[.pointer (some ⟨lb, 0, none⟩), .int .i64 0] 22 (.slice pe ne ce)
  ti : Rows2 W 24 #[.pointer (some ⟨lb, 0, none⟩)] 12 (.slice pt nt ct)
section
variable {w : World} {lb rb D c : Nat} {L : List Wt} {n : Nat} {T : List Du} {x : Stp} {W : World}
theorem tail_of (h : Pq w lb rb D c L n T x W) (hc : c ≤ 300) (hu : x.u.toList.length ≤ 300) (hw : x.w.toList.length ≤ 300) : ∃ pe ce pt ct sn av, Tail lb rb x W pe L.length ce pt T.length ct sn av := by
  obtain ⟨K, hK⟩ : ∃ K : TK, K = ⟨(x.u, x.w), hu, hw⟩ := ⟨_, rfl⟩
  obtain ⟨E, F, h1, h2, h3, h4, h5, h6⟩ := h.m
  have hts := h1.ts
  obtain ⟨ve, vt, c0, c1, f0, f1, sl, st, n0, n1, n2, hE⟩ := (id h2 : Rl W rb F L T)
  obtain ⟨pe, ce, rfl⟩ := sl.shape
  obtain ⟨pt, ct, rfl⟩ := st.shape
  have loV : ∀ V, Below W.heap.size W V → Lo V lb E L n T := fun V b => h1.below b
  have rlV : ∀ V, Below W.heap.size W V → Rl V rb F L T := fun V b => h2.mv (F := fun _ => False) (Mv.below b) (fun _ _ f => f)
  refine ⟨pe, ce, pt, ct, (soon T).getD 9223372036854775807, (lk T K).getD 9223372036854775807, ⟨c0, c1⟩, fun V b => (lenl_any (loV V b)).mono fun e V2 z => ⟨z.1, by rw [z.2]; exact Below.refl _ _⟩, fun V b => soonest_any (loV V b), fun V b => ?_, fun V b => ?_, fun V b => ?_, fun V b => ?_, fun V b => ?_⟩
  · rw [soon_head]
    exact (rsoon_any (rlV V b)).mono fun e V2 z => ⟨z.1, by rw [z.2]; exact Below.refl _ _⟩
  · have := atl_any (loV V b) K
    rw [hK] at this ⊢
    exact this.mono fun e V2 z => ⟨z.1, by rw [z.2]; exact Below.refl _ _⟩
  · have := rat_any (rlV V b) hts (by have := h.tl; omega) K
    rw [hK] at this ⊢
    exact this.mono fun e V2 z => ⟨z.1, by rw [z.2]; exact Below.refl _ _⟩
  · refine (eventsl_any (loV V b) 0 (by have := h.ll; omega)).mono ?_
    rintro e V2 ⟨v, done, rest, rfl, e1, e2, sv, bv, hv⟩
    have er : rest = [] := by
      rcases e2 with z | ⟨z, z'⟩
      · exact z.1
      · exact absurd (List.eq_nil_of_length_eq_zero z') z
    rw [er, List.append_nil] at e1
    rw [e1] at sv
    obtain ⟨p, c', rfl⟩ := sv.shape
    have sl2 := sl.mv (F := fun _ => False) (Mv.below (b.trans (bv.mono b.size))) (fun _ _ f => f)
    exact ⟨p, _, c', rfl, bv, events_same sv sl2 (by have := h.ll; omega)⟩
  · refine (timersl_any (loV V b) h.t (by have := h.tl; omega)).mono ?_
    rintro e V2 ⟨v, rfl, sv, bv, hv⟩
    obtain ⟨p, c', rfl⟩ := sv.shape
    have st2 := st.mv (F := fun _ => False) (Mv.below (b.trans (bv.mono b.size))) (fun _ _ f => f)
    exact ⟨p, _, c', rfl, bv, dues_same sv st2 (by have := h.tl; omega)⟩
end
/-- Between two rounds. -/
def Ph (w : World) (lb rb j : Nat) (W : World) : Prop := ∃ L n T, Lp w (fun _ => False) lb rb L n T L T W ∧ Ks L ∧ (∀ d ∈ T, d.t ≤ 9223372036854775807) ∧ L.length ≤ j ∧ T.length ≤ j ∧ n ≤ j
theorem Ph.w {w W : World} {lb rb j : Nat} (h : Ph w lb rb j W) : Below w.heap.size w W := by
  obtain ⟨L, n, T, h, _⟩ := h
  exact h.b
theorem Pq.ph {w : World} {lb rb D c : Nat} {L : List Wt} {n : Nat} {T : List Du} {x : Stp} {W : World} (h : Pq w lb rb D c L n T x W) : Ph w lb rb c W :=
  ⟨L, n, T, h.m.next (F := fun _ => False) (Mv.refl _ _) (fun _ f => f.elim) (fun _ f => f.elim), h.s, h.t, h.ll, h.tl, h.nl⟩
theorem Ph.start {w W1 W2 : World} {lb rb : Nat} (b1 : Below w.heap.size w W1) (h : Lo W1 lb (fun k => k = lb) [] 0 []) (hlb : w.heap.size ≤ lb) (hrb : W1.heap.size = rb) (h2 : W1.alloc (.cells #[.slice none 0 0, .slice none 0 0] 30) = W2) : Ph w lb rb 0 W2 := by
  have bW : Below W1.heap.size W1 W2 := by rw [← h2]; exact (Below.refl _ _).alloc (Nat.le_refl _) _
  have ll := h.lt.1 lb rfl
  refine ⟨[], 0, [], ⟨fun k => k = lb, fun k => k = rb, h.below bW, ⟨.slice none 0 0, .slice none 0 0, by rw [← h2]; exact cell_at hrb rfl, by rw [← h2]; exact cell_at hrb rfl, by rw [← h2]; exact froz_new hrb, by rw [← h2]; exact froz_new hrb, .inl ⟨rfl, rfl⟩, .inl ⟨rfl, rfl⟩, (fun e => by cases e), (fun e => by cases e), (fun k e => by cases e), fun k => ⟨.inl, fun h => h.elim id (fun h => h.elim (fun e => by cases e) (fun e => by cases e))⟩⟩, fun k e f => by omega, fun k hk => ⟨?_, fun f => f⟩, fun k f => f.elim, b1.trans (bW.mono b1.size)⟩, List.Pairwise.nil, (fun d hd => by cases hd), by simp, by simp, by simp⟩
  have := b1.size
  rcases hk with e | e <;> omega
theorem Ph.take {w W A : World} {lb rb D j : Nat} {x : Stp} (h : Ph w lb rb j W) (hD : W.heap.size = D) (hA : W.alloc (.cells #[.int .i64 x.wh, .int .i64 x.k, .int .i64 x.p, .int .i64 x.s, .string x.eu, .string x.ex, .string x.u, .string x.w, .int .i64 x.a] 34) = A) : ∃ L n T, Pq w lb rb D j L n T x A := by
  obtain ⟨L, n, T, h1, h2, h3, h4, h5, h6⟩ := h
  have bA : Below W.heap.size W A := by rw [← hA]; exact (Below.refl _ _).alloc (Nat.le_refl _) _
  have sA : A.heap.size = D + 1 := by rw [← hA]; simp [hD]
  exact ⟨L, n, T, h1.next (F := fun _ => False) (Mv.below bA) (fun _ f => f.elim) (fun k hk => .inr ⟨by omega, by omega⟩), h2, h3, by rw [← hA]; exact ⟨cell_at hD rfl, cell_at hD rfl, cell_at hD rfl, cell_at hD rfl, cell_at hD rfl, cell_at hD rfl, cell_at hD rfl, cell_at hD rfl, cell_at hD rfl⟩, h4, h5, h6⟩
/-- At the end. -/
theorem Ph.last {w W : World} {lb rb j : Nat} (h : Ph w lb rb j W) (hj : j ≤ 100) : ∃ pe ne ce, W.cell? ⟨rb, 0, none⟩ = some (.slice pe ne ce) ∧ (ne ≠ 0 → Calls Tryz.prog 23 #[.pointer (some ⟨lb, 0, none⟩), .int .i64 1] W fun e V => ∃ p c, e = .returned (.slice p 1 c) ∧ Below W.heap.size W V) := by
  obtain ⟨L, n, T, ⟨E, F, h1, h2, h3, h4, h5, h6⟩, h7, h8, h9, h10, h11⟩ := h
  obtain ⟨ve, vt, c0, c1, f0, f1, sl, st, n0, n1, n2, hE⟩ := h2
  obtain ⟨pe, ce, rfl⟩ := sl.shape
  refine ⟨pe, _, ce, c0, fun hne => (eventsl_any h1 1 (by omega)).mono ?_⟩
  rintro e V ⟨v, done, rest, rfl, e1, e2, sv, bv, hv⟩
  have hd : done.length = 1 := by
    rcases e2 with ⟨z, z'⟩ | ⟨_, z⟩
    · have := z' (by decide)
      rw [z, List.append_nil] at e1
      rw [e1] at this
      omega
    · exact z
  obtain ⟨p, c', rfl⟩ := sv.shape
  rw [hd]
  exact ⟨p, c', rfl, bv⟩
end Go.Proofs.YtdcidlgmnnaahaaGreat
