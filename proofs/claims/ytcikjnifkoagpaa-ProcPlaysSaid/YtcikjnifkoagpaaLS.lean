/- ProcPlays: Reap of both; what is asked behind each step. -/
import Derived.Test.YtcikjnifkoagpaaLR
import Derived.Deep.QuietTactic
import Derived.BigQuiet
namespace Go.Proofs.Ytcikjnifkoagpaa
open Go.RowKit Go.Shelf
attribute [local go_sem] Oper.semAt_some
theorem reap_two {w : World} {bt bm rb D : Nat} {room last : Int} {l : Ps} {x : Stp} {W : World} (h : Pq w bt bm rb D room last l x W) (hl : last ≤ 1000000) (k : Int) :
    ∃ (p : Pr) (e : Int), Calls Try.prog 15 #[ptr bt, .int .i64 k] W fun e1 V => e1 = .returned (.tuple #[prV p, .int .i64 e]) ∧ ∀ V' bp, Below V.heap.size V V' → V.heap.size ≤ bp → bp < V'.heap.size → Dx D x V' ∧
      Calls Try.prog 16 #[ptr rb, .int .i64 k] V' fun e2 V2 => e2 = .returned (.tuple #[prV p, .int .i64 e]) ∧ Mv (fun k => ¬ (k = D ∨ k = bp)) V' V2 ∧ ∃ last' l', last' ≤ last + 1 ∧ Pq w bt bm rb D room last' l' x V2 := by
  refine ⟨(rpP l k).getD zPr, rpE l k, (h.m.code (fun t => reap_n t h.f hl k rfl rfl rfl)).mono ?_⟩
  rintro e1 V ⟨rfl, m, mv⟩
  refine ⟨rfl, fun V' bp b h1 h2 => ?_⟩
  have d' := (h.d.mv mv).mv (Mv.below b)
  have m' : Md w (fun k => k = D ∨ k = bp) bt bm rb room last (rpL l k) last (one :: l) V' := m.next (F := fun _ => False) (Mv.below b) (fun _ f => f.elim) (fun k hk => hk.imp id (fun e => by omega))
  have e1 : rpE (one :: l) k = rpE l k := by unfold rpE; rw [reap_one]
  refine ⟨d', (m'.ref (lr' := last) (r' := one :: rpL l k) (R := fun e => e = .returned (.tuple #[prV ((rpP l k).getD zPr), .int .i64 (rpE l k)])) (fun g' cap h' => ?_)).mono ?_⟩
  · have hr := rreap_any k V' h' (fun p hp => by simp at hp; subst hp; rfl)
    rw [reap_one, e1] at hr
    refine hr.mono ?_
    rintro e V2 ⟨rfl, l', g2, c2, hh, rg⟩
    have : l' = one :: rpL l k := by
      rcases hh with ⟨hn, e⟩ | ⟨a, p, c, hp, e, hn, e'⟩
      · rw [e]; unfold rpL; rw [hn]
      · rw [e']; exact reap_agree h.f hp e hn
    rw [this] at rg
    exact ⟨rfl, g2, c2, rg⟩
  · rintro e2 V2 ⟨rfl, m2, mv2⟩
    have mD : Mv (fun k => ¬ k = D) V' V2 := mv2.mono fun k _ f e => f (.inl e)
    exact ⟨rfl, mv2, last, rpL l k, by omega, m2.next (F := fun _ => False) (Mv.refl _ _) (fun _ f => f.elim) (fun k hk => .inl (.inl hk)), h.f.reap k, d'.mv mD⟩
/-- What both tell, and nothing turns. -/
def Both (W : World) (f g : Nat) (af ag : Array Value) (v : Value) : Prop :=
  (∀ V, Below W.heap.size W V → Calls Try.prog f af V fun e V2 => e = .returned v ∧ Below V.heap.size V V2) ∧ ∀ V, Below W.heap.size W V → Calls Try.prog g ag V fun e V2 => e = .returned v ∧ Below V.heap.size V V2
theorem get_both {w : World} {bt bm rb D : Nat} {room last : Int} {l : Ps} {x : Stp} {W : World} (h : Pq w bt bm rb D room last l x W) (k : Int) (hk : bd k) : ∃ (p : Pr) (b : Bool), Both W 17 18 #[ptr bt, .int .i64 k] #[ptr rb, .int .i64 k] (.tuple #[prV p, .bool b]) := by
  obtain ⟨a1, a2⟩ := get_agree l k
  refine ⟨getP l k, thereP l k, fun V b => ?_, fun V b => ?_⟩
  · obtain ⟨g, cap, m⟩ := (h.below b).m
    exact (get_any bt bm room last l k V m.t.tb hk.1 hk.2).mono fun e V2 z => ⟨z.1, z.2⟩
  · obtain ⟨g, cap, m⟩ := (h.below b).m
    have := rget_any k V m.o
    rw [a1, a2] at this
    exact this.mono fun e V2 z => ⟨z.1, z.2⟩
theorem sig_agree {room last : Int} {l : Ps} (hw : Wf room last l) (k : Int) : sgP (one :: l) k = (((lk l k).getD zPr).term, ((lk l k).getD zPr).kill) := by
  unfold sgP
  rw [lk_one]
  by_cases e : k = 1
  · subst e
    rw [if_pos rfl, hw.no1]
    rfl
  · rw [if_neg e]
    cases lk l k <;> rfl
theorem sig_both {w : World} {bt bm rb D : Nat} {room last : Int} {l : Ps} {x : Stp} {W : World} (h : Pq w bt bm rb D room last l x W) (k : Int) (hk : bd k) : ∃ c d : Bool, Both W 19 20 #[ptr bt, .int .i64 k] #[ptr rb, .int .i64 k] (.tuple #[.bool c, .bool d]) := by
  refine ⟨((lk l k).getD zPr).term, ((lk l k).getD zPr).kill, fun V b => ?_, fun V b => ?_⟩
  · obtain ⟨g, cap, m⟩ := (h.below b).m
    exact (sig_any bt bm room last l k V m.t.tb hk.1 hk.2).mono fun e V2 z => ⟨z.1, z.2⟩
  · obtain ⟨g, cap, m⟩ := (h.below b).m
    have := rsignals_any k V m.o.rt
    rw [sig_agree h.f] at this
    exact this.mono fun e V2 z => ⟨z.1, z.2⟩
theorem len_both {w : World} {bt bm rb D : Nat} {room last : Int} {l : Ps} {x : Stp} {W : World} (h : Pq w bt bm rb D room last l x W) : ∃ n : Int, Both W 21 22 #[ptr bt] #[ptr rb] (.int .i64 n) := by
  refine ⟨l.length, fun V b => ?_, fun V b => ?_⟩
  · obtain ⟨g, cap, m⟩ := (h.below b).m
    exact (len_any bt bm room last l V m.t.tb).mono fun e V2 z => ⟨z.1, by rw [z.2]; exact Below.refl _ _⟩
  · obtain ⟨g, cap, m⟩ := (h.below b).m
    have := rlen_any V m.o.rt
    rw [show (((one :: l).length : Nat) : Int) - 1 = (l.length : Int) by simp] at this
    exact this.mono fun e V2 z => ⟨z.1, by rw [z.2]; exact Below.refl _ _⟩
/-- A row of processes behind a value. -/
def PRow (W : World) (v : Value) (L : Ps) : Prop := ∃ base, W.ownsRow base 40 6 v L.length (prsC L)
theorem PRow.below {W V : World} {v : Value} {L : Ps} (h : PRow W v L) (b : Below W.heap.size W V) : PRow V v L := by
  obtain ⟨base, h⟩ := h
  exact ⟨base, own_below h b⟩
theorem prsC_at : ∀ {l : Ps} {i : Nat} {p : Pr}, l[i]? = some p → ∀ q, q < 6 → (prsC l)[i * 6 + q]? = (prC p)[q]?
  | x :: r, 0, p, h, q, hq => by
    simp at h
    subst h
    show (prC x ++ prsC r)[0 * 6 + q]? = _
    rw [Nat.zero_mul, Nat.zero_add, List.getElem?_append_left (by show q < 6; exact hq)]
  | x :: r, i + 1, p, h, q, hq => by
    show (prC x ++ prsC r)[(i + 1) * 6 + q]? = _
    rw [List.getElem?_append_right (by show 6 ≤ _; omega), show (i + 1) * 6 + q - (prC x).length = i * 6 + q by show _ - 6 = _; omega]
    exact prsC_at (by simpa using h) q hq
theorem PRow.shape {W : World} {v : Value} {L : Ps} (h : PRow W v L) : ∃ p c, v = .slice p L.length c ∧ ∀ i x, L[i]? = some x → ∃ g, p = some ⟨g, 0, none⟩ ∧ ∀ q u, (prC x)[q]? = some u → W.cell? ⟨g, i * 6 + q, none⟩ = some u := by
  obtain ⟨base, h⟩ := h
  rcases h.2 with ⟨e, z⟩ | ⟨g, cp, cur, e, _⟩
  · exact ⟨none, 0, by rw [e, z], fun i x hx => by rw [List.eq_nil_of_length_eq_zero z] at hx; cases hx⟩
  · refine ⟨_, _, e, fun i x hx => ⟨g, rfl, fun q u hq => ?_⟩⟩
    have hq6 : q < 6 := (List.getElem?_eq_some_iff.1 hq).1
    have := h.cells (g := g) (by rw [e]; rfl) (i * 6 + q) u (by rw [prsC_at hx q hq6]; exact hq)
    rw [Addr.add_lit, Nat.zero_add] at this
    exact this
set_option maxRecDepth 100000 in
set_option maxHeartbeats 2000000 in
theorem procs_same {v u : Value} {L : Ps} {w : World} (hv : PRow w v L) (hu : PRow w u L) (hl : L.length ≤ 1000) : Calls Try.prog 23 #[v, u] w fun e V => e = .returned (.bool true) ∧ Below w.heap.size w V := by
  obtain ⟨p, c, rfl, h1⟩ := hv.shape
  obtain ⟨q, d, rfl, h2⟩ := hu.shape
  obtain ⟨n, hn⟩ : ∃ n, L.length = n := ⟨_, rfl⟩
  rw [hn]
  rw [hn] at hl
  have hnH : Hid (L.length = n) := hn
  have h1H : Hid _ := h1
  have h2H : Hid _ := h2
  clear hn h1 h2 hv hu
  go_enter Try.func23, Try.ntmps23
  go_wp2_with fail
  go_loopw [5] (fun i wr => ∃ j : Nat, j ≤ n ∧ i = .int .i64 j ∧ Hid (Below w.heap.size w wr)) (fun i _ => n - (intOf i).toNat)
  case atStart => exact ⟨0, by omega, rfl, Below.refl _ _⟩
  case round =>
    obtain ⟨j, hj, rfl, hb⟩ := hrel
    by_cases hlt : j < n
    · have hltI : (j : Int) < (n : Int) := by omega
      obtain ⟨x, hx⟩ : ∃ x, L[j]? = some x := ⟨L[j]'(by have := hnH.out; omega), List.getElem?_eq_getElem _⟩
      obtain ⟨g1, rfl, k1⟩ := h1H.out j x hx
      obtain ⟨g2, rfl, k2⟩ := h2H.out j x hx
      have d1 : ∀ nq t u, (prC x)[t]? = some u → (wr.drewN nq).cell? ⟨g1, j * 6 + t, none⟩ = some u := fun nq t u ht => (Mv.below (E := fun _ => False) hb.out).cell (fun h => h) (k1 t u ht)
      have d2 : ∀ nq t u, (prC x)[t]? = some u → (wr.drewN nq).cell? ⟨g2, j * 6 + t, none⟩ = some u := fun nq t u ht => (Mv.below (E := fun _ => False) hb.out).cell (fun h => h) (k2 t u ht)
      have a0 := fun nq => d1 nq 0 _ rfl
      have a1 := fun nq => d1 nq 1 _ rfl
      have a2 := fun nq => d1 nq 2 _ rfl
      have a3 := fun nq => d1 nq 3 _ rfl
      have a4 := fun nq => d1 nq 4 _ rfl
      have a5 := fun nq => d1 nq 5 _ rfl
      have b0 := fun nq => d2 nq 0 _ rfl
      have b1 := fun nq => d2 nq 1 _ rfl
      have b2 := fun nq => d2 nq 2 _ rfl
      have b3 := fun nq => d2 nq 3 _ rfl
      have b4 := fun nq => d2 nq 4 _ rfl
      have b5 := fun nq => d2 nq 5 _ rfl
      simp only [Nat.add_zero] at a0 b0
      have nxt : Hid (∀ nq, Below w.heap.size w (wr.drewN nq)) := fun nq => hb.out.trans ⟨rfl, rfl, rfl, Nat.le_refl _, fun _ _ => rfl⟩
      clear k1 k2 hx h1H h2H d1 d2
      go_wp2_with fail
      go_quiet (fail)
      go_wp2_with fail
      exact ⟨⟨j + 1, by omega, by go_num, nxt.out _⟩, by simp [intOf]; omega⟩
    · have hge : ¬ (j : Int) < (n : Int) := by omega
      go_wp2_with fail
      go_ret
      exact ⟨rfl, hb.out⟩
/-- All of both, held against each other. -/
theorem all_two {w : World} {bt bm rb D : Nat} {room last : Int} {l : Ps} {x : Stp} {W : World} (h : Pq w bt bm rb D room last l x W) (hl : last ≤ 1000000) :
    ∀ V, Below W.heap.size W V → Calls Try.prog 24 #[ptr bt, .int .i64 0] V fun e V2 => ∃ p1 n1 c1, e = .returned (.slice p1 n1 c1) ∧ Below V.heap.size V V2 ∧ Calls Try.prog 25 #[ptr rb] V2 fun e V3 => ∃ p2 n2 c2, e = .returned (.slice p2 n2 c2) ∧ Below V2.heap.size V2 V3 ∧ Calls Try.prog 23 #[.slice p1 n1 c1, .slice p2 n2 c2] V3 fun e V4 => e = .returned (.bool true) ∧ Below V3.heap.size V3 V4 := by
  intro V b
  have len := h.f.len'
  obtain ⟨g, cap, m⟩ := (h.below b).m
  refine (all_0 bt bm room last l V m.t.tb h.f.srt (by omega) (fun p hp => by have := h.f.rng p hp; omega)).mono ?_
  rintro e V2 ⟨v, rfl, o1, b2⟩
  have b2' := b.trans (b2.mono b.size)
  have r1 : PRow V2 v (one :: l) := ⟨_, o1⟩
  obtain ⟨p1, c1, rfl, _⟩ := r1.shape
  refine ⟨p1, _, c1, rfl, b2, ?_⟩
  obtain ⟨g2, cap2, m2⟩ := (h.below b2').m
  refine (rall_any V2 m2.o).mono ?_
  rintro e V3 ⟨u, rfl, o2, b3⟩
  have r2 : PRow V3 u (one :: l) := ⟨_, o2⟩
  obtain ⟨p2, c2, rfl, _⟩ := r2.shape
  refine ⟨p2, _, c2, rfl, b3, ?_⟩
  refine (procs_same (r1.below b3) r2 (by simp; omega)).mono ?_
  rintro e V4 ⟨rfl, b4⟩
  exact ⟨rfl, b4⟩
end Go.Proofs.Ytcikjnifkoagpaa
