/- A table that a law has made, step by step. -/
import Derived.Test.YtcikjnifkoagpaaPI
namespace Go.Proofs.Ytcikjnifkoagpaa
open Go.RowKit Go.Shelf
/-- A table as it may be. -/
structure Wf (room last : Int) (l : Ps) : Prop where
  srt : Srt l
  rng : ∀ p ∈ l, 2 ≤ p.pid ∧ p.pid ≤ last
  la : 1 ≤ last
  len : l = [] ∨ (l.length : Int) ≤ room
  rm : room ≤ 64
theorem Wf.len' {room last : Int} {l : Ps} (h : Wf room last l) : l.length ≤ 64 := by
  have := h.rm
  rcases h.len with e | e
  · rw [e]; simp
  · omega
theorem Wf.new (r : Int) : Wf (roomOf r) 1 [] := ⟨List.Pairwise.nil, fun p h => by simp at h, by omega, .inl rfl, by unfold roomOf; omega⟩
theorem Wf.pids {room last : Int} {l l' : Ps} (h : Wf room last l) (e : l'.map (·.pid) = l.map (·.pid)) : Wf room last l' := by
  have hl : l'.length = l.length := by simpa using congrArg List.length e
  refine ⟨srt_pids e h.srt, fun p hp => ?_, h.la, ?_, h.rm⟩
  · have : p.pid ∈ l.map (·.pid) := by rw [← e]; exact List.mem_map_of_mem (f := (·.pid)) hp
    obtain ⟨q, hq, e'⟩ := List.mem_map.1 this
    have := h.rng q hq
    omega
  · rcases h.len with e2 | e2
    · left; rw [e2] at hl; exact List.eq_nil_of_length_eq_zero (by simpa using hl)
    · right; omega
theorem Wf.kill {room last : Int} {l : Ps} (h : Wf room last l) (k sig : Int) : Wf room last (klL l k sig) := by
  unfold klL
  split
  · exact h.pids (rep_pids _ _)
  · exact h
theorem Wf.exit {room last : Int} {l : Ps} (h : Wf room last l) (k s : Int) : Wf room last (exL l k s) := by
  unfold exL
  split
  · refine h.pids ?_
    rw [List.map_map]
    exact (List.map_congr_left (fun q _ => orph_pid k q)).trans (rep_pids _ _)
  · exact h
theorem Wf.reap {room last : Int} {l : Ps} (h : Wf room last l) (k : Int) : Wf room last (rpL l k) := by
  unfold rpL
  split
  · rename_i p _
    have hsub : (del l p.pid).Sublist l := List.filter_sublist
    refine ⟨h.srt.sublist hsub, fun q hq => h.rng q (hsub.subset hq), h.la, ?_, h.rm⟩
    have := hsub.length_le
    rcases h.len with e | e
    · left; rw [e]; rfl
    · right; omega
  · exact h
theorem Wf.spawn {room last : Int} {l : Ps} (h : Wf room last l) (k : Int) (g c : ByteArray) : Wf room (spP room last l k g c).last (spP room last l k g c).l := by
  unfold spP
  split
  · split
    · exact h
    · rename_i hr
      refine ⟨?_, fun p hp => ?_, by show 1 ≤ last + 1; have := h.la; omega, .inr (by simp; omega), h.rm⟩
      · refine List.pairwise_append.2 ⟨h.srt, by simp, fun a ha b hb => ?_⟩
        simp at hb; subst hb
        have := h.rng a ha
        show a.pid < last + 1
        omega
      · rcases List.mem_append.1 hp with hp | hp
        · have := h.rng p hp; show _ ∧ _ ≤ last + 1; omega
        · simp at hp; subst hp; have := h.la; show 2 ≤ last + 1 ∧ last + 1 ≤ last + 1; omega
  · exact h
theorem Wf.fork {room last : Int} {l : Ps} (h : Wf room last l) (k : Int) : Wf room (fkP room last l k).last (fkP room last l k).l := by
  unfold fkP
  split
  · exact h.spawn _ _ _
  · exact h
theorem sp_last (room last : Int) (l : Ps) (k : Int) (g c : ByteArray) : last ≤ (spP room last l k g c).last ∧ (spP room last l k g c).last ≤ last + 1 := by
  unfold spP
  split
  · split
    · show last ≤ last ∧ last ≤ last + 1; omega
    · show last ≤ last + 1 ∧ last + 1 ≤ last + 1; omega
  · show last ≤ last ∧ last ≤ last + 1; omega
theorem fk_last (room last : Int) (l : Ps) (k : Int) : last ≤ (fkP room last l k).last ∧ (fkP room last l k).last ≤ last + 1 := by
  unfold fkP
  split
  · exact sp_last _ _ _ _ _ _
  · show last ≤ last ∧ last ≤ last + 1; omega
/-- A table made since w. -/
structure Tn (w : World) (bt bm : Nat) (room last : Int) (l : Ps) (W : World) : Prop where
  tb : Tb W bt bm room last l
  be : Below w.heap.size w W
  lt : w.heap.size ≤ bt
  lm : w.heap.size ≤ bm
theorem Tn.step {w W W' : World} {bt bm : Nat} {room last : Int} {l : Ps} {last' : Int} {l' : Ps} (h : Tn w bt bm room last l W) (t : Tb W' bt bm room last' l') (m : Mv (fun k => k = bt ∨ k = bm) W W') : Tn w bt bm room last' l' W' :=
  ⟨t, h.be.trans (m.toBelow h.be.size (fun k hk e => by have := h.lt; have := h.lm; omega)), h.lt, h.lm⟩
theorem Tn.below {w W W' : World} {bt bm : Nat} {room last : Int} {l : Ps} (h : Tn w bt bm room last l W) (b : Below W.heap.size W W') : Tn w bt bm room last l W' :=
  ⟨h.tb.below b, h.be.trans (b.mono h.be.size), h.lt, h.lm⟩
theorem Tn.from {w w0 W : World} {bt bm : Nat} {room last : Int} {l : Ps} (h : Tn w bt bm room last l W) (b : Below w0.heap.size w0 w) : Tn w0 bt bm room last l W :=
  ⟨h.tb, b.trans (h.be.mono b.size), Nat.le_trans b.size h.lt, Nat.le_trans b.size h.lm⟩
abbrev ptr (b : Nat) : Value := .pointer (some ⟨b, 0, none⟩)
theorem new_n (r : Int) (w : World) : Calls Try.prog 5 #[.int .i64 r] w fun e W => ∃ bt bm, e = .returned (ptr bt) ∧ Tn w bt bm (roomOf r) 1 [] W := by
  refine (new_any r w).mono ?_
  rintro e W ⟨bt, bm, rfl, h1, h2, h3, h4⟩
  exact ⟨bt, bm, rfl, h3, h4, h1, h2⟩
theorem spawn_n {w W : World} {bt bm : Nat} {room last : Int} {l : Ps} (h : Tn w bt bm room last l W) (hw : Wf room last l) (hl : last ≤ 1000000) (k : Int) (g c : ByteArray) (h0 : -9223372036854775808 ≤ k) (h1 : k ≤ 9223372036854775807) {s : Sp} (hs : spP room last l k g c = s) :
    Calls Try.prog 7 #[ptr bt, .int .i64 k, .string g, .string c] W fun e W' => e = .returned (.tuple #[.int .i64 s.n, .int .i64 s.e]) ∧ Tn w bt bm room s.last s.l W' ∧ Mv (fun k => k = bt ∨ k = bm) W W' := by
  refine (spawn_any bt bm room last l k g c W h.tb h0 h1 (fun q hq => (hw.rng q hq).2) (by have := hw.len'; omega) (by have := hw.la; omega) hl).mono ?_
  rintro e W' ⟨rfl, t, m⟩
  rw [hs] at t ⊢
  exact ⟨rfl, h.step t m, m⟩
theorem fork_n {w W : World} {bt bm : Nat} {room last : Int} {l : Ps} (h : Tn w bt bm room last l W) (hw : Wf room last l) (hl : last ≤ 1000000) (k : Int) (h0 : -9223372036854775808 ≤ k) (h1 : k ≤ 9223372036854775807) {s : Sp} (hs : fkP room last l k = s) :
    Calls Try.prog 9 #[ptr bt, .int .i64 k] W fun e W' => e = .returned (.tuple #[.int .i64 s.n, .int .i64 s.e]) ∧ Tn w bt bm room s.last s.l W' ∧ Mv (fun k => k = bt ∨ k = bm) W W' := by
  refine (fork_any bt bm room last l k W h.tb h0 h1 (fun q hq => (hw.rng q hq).2) (by have := hw.len'; omega) (by have := hw.la; omega) hl).mono ?_
  rintro e W' ⟨rfl, t, m⟩
  rw [hs] at t ⊢
  exact ⟨rfl, h.step t m, m⟩
theorem exit_n {w W : World} {bt bm : Nat} {room last : Int} {l : Ps} (h : Tn w bt bm room last l W) (hw : Wf room last l) (hl : last ≤ 1000000) (k s : Int) (h0 : -9223372036854775808 ≤ k) (h1 : k ≤ 9223372036854775807) {e1 : Int} {l1 : Ps} (he : exE l k = e1) (hl1 : exL l k s = l1) :
    Calls Try.prog 11 #[ptr bt, .int .i64 k, .int .i64 s] W fun e W' => e = .returned (.int .i64 e1) ∧ Tn w bt bm room last l1 W' ∧ Mv (fun k => k = bt ∨ k = bm) W W' := by
  refine (exit_any bt bm room last l k s W h.tb h0 h1 hw.srt (by have := hw.len'; omega) (fun p hp => by have := hw.rng p hp; omega)).mono ?_
  rintro e W' ⟨rfl, t, m⟩
  rw [hl1] at t
  rw [he]
  exact ⟨rfl, h.step t m, m⟩
theorem kill_n {w W : World} {bt bm : Nat} {room last : Int} {l : Ps} (h : Tn w bt bm room last l W) (hw : Wf room last l) (k s : Int) (h0 : -9223372036854775808 ≤ k) (h1 : k ≤ 9223372036854775807) {e1 : Int} {l1 : Ps} (he : klE l k s = e1) (hl1 : klL l k s = l1) :
    Calls Try.prog 13 #[ptr bt, .int .i64 k, .int .i64 s] W fun e W' => e = .returned (.int .i64 e1) ∧ Tn w bt bm room last l1 W' ∧ Mv (fun k => k = bt ∨ k = bm) W W' := by
  refine (kill_any bt bm room last l k s W h.tb h0 h1 hw.srt (by have := hw.len'; omega)).mono ?_
  rintro e W' ⟨rfl, t, m⟩
  rw [hl1] at t
  rw [he]
  exact ⟨rfl, h.step t m, m⟩
theorem reap_n {w W : World} {bt bm : Nat} {room last : Int} {l : Ps} (h : Tn w bt bm room last l W) (hw : Wf room last l) (hl : last ≤ 1000000) (k : Int) {p : Pr} {e1 : Int} {l1 : Ps} (hp : (rpP l k).getD zPr = p) (he : rpE l k = e1) (hl1 : rpL l k = l1) :
    Calls Try.prog 15 #[ptr bt, .int .i64 k] W fun e W' => e = .returned (.tuple #[prV p, .int .i64 e1]) ∧ Tn w bt bm room last l1 W' ∧ Mv (fun k => k = bt ∨ k = bm) W W' := by
  refine (reap_any bt bm room last l k W h.tb hw.srt (by have := hw.len'; omega) (fun p hp => by have := hw.rng p hp; omega)).mono ?_
  rintro e W' ⟨rfl, t, m⟩
  rw [hl1] at t
  rw [he, hp]
  exact ⟨rfl, h.step t m, m⟩
theorem get_n {w W : World} {bt bm : Nat} {room last : Int} {l : Ps} (h : Tn w bt bm room last l W) (k : Int) (h0 : -9223372036854775808 ≤ k) (h1 : k ≤ 9223372036854775807) {p : Pr} {b : Bool} (hp : getP l k = p) (hb : thereP l k = b) :
    Calls Try.prog 17 #[ptr bt, .int .i64 k] W fun e W' => e = .returned (.tuple #[prV p, .bool b]) ∧ Tn w bt bm room last l W' ∧ Mv (fun k => k = bt ∨ k = bm) W W' := by
  refine (get_any bt bm room last l k W h.tb h0 h1).mono ?_
  rintro e W' ⟨rfl, m⟩
  rw [hp, hb]
  exact ⟨rfl, h.below m, Mv.below m⟩
theorem sig_n {w W : World} {bt bm : Nat} {room last : Int} {l : Ps} (h : Tn w bt bm room last l W) (k : Int) (h0 : -9223372036854775808 ≤ k) (h1 : k ≤ 9223372036854775807) {a b : Bool} (ha : ((lk l k).getD zPr).term = a) (hb : ((lk l k).getD zPr).kill = b) :
    Calls Try.prog 19 #[ptr bt, .int .i64 k] W fun e W' => e = .returned (.tuple #[.bool a, .bool b]) ∧ Tn w bt bm room last l W' ∧ Mv (fun k => k = bt ∨ k = bm) W W' := by
  refine (sig_any bt bm room last l k W h.tb h0 h1).mono ?_
  rintro e W' ⟨rfl, m⟩
  rw [ha, hb]
  exact ⟨rfl, h.below m, Mv.below m⟩
theorem len_n {w W : World} {bt bm : Nat} {room last : Int} {l : Ps} (h : Tn w bt bm room last l W) {n : Int} (hn : (l.length : Int) = n) :
    Calls Try.prog 21 #[ptr bt] W fun e W' => e = .returned (.int .i64 n) ∧ Tn w bt bm room last l W' ∧ Mv (fun k => k = bt ∨ k = bm) W W' := by
  refine (len_any bt bm room last l W h.tb).mono ?_
  rintro e W' ⟨rfl, rfl⟩
  rw [hn]
  exact ⟨rfl, h, Mv.refl _ _⟩
def gB : ByteArray := ⟨#[103]⟩
def cB : ByteArray := ⟨#[99]⟩
set_option maxRecDepth 100000 in
set_option maxHeartbeats 4000000 in
theorem known_any (w : World) : Calls Try.prog 4 #[] w fun e w' => e = .returned (.bool true) ∧ Below w.heap.size w w' := by
  have hN := hidP (new_n 10 w)
  go_enter Try.func4, Try.ntmps4
  go_wp2_with fail
  refine hN.out.mono ?_
  rintro e W1 ⟨bt, bm, rfl, T1⟩
  rw [show roomOf 10 = 10 from rfl] at T1
  have w1 : Wf 10 1 [] := Wf.new 10
  have S1 := hidP (spawn_n T1 w1 (by omega) 1 gB cB (by omega) (by omega) (s := ⟨2, 0, 2, [⟨2, 1, gB, false, 0, cB, false, false⟩]⟩) rfl)
  clear T1
  go_wp2_with fail
  refine S1.out.mono ?_
  rintro e W2 ⟨rfl, T2, m2⟩
  have w2 : Wf 10 2 [⟨2, 1, gB, false, 0, cB, false, false⟩] := w1.spawn 1 gB cB
  have S2 := hidP (fork_n T2 w2 (by omega) 2 (by omega) (by omega) (s := ⟨3, 0, 3, [⟨2, 1, gB, false, 0, cB, false, false⟩, ⟨3, 2, gB, false, 0, cB, false, false⟩]⟩) rfl)
  clear T2 m2
  go_wp2_with fail
  refine S2.out.mono ?_
  rintro e W3 ⟨rfl, T3, m3⟩
  have w3 : Wf 10 3 [⟨2, 1, gB, false, 0, cB, false, false⟩, ⟨3, 2, gB, false, 0, cB, false, false⟩] := w2.fork 2
  have S3 := hidP (exit_n T3 w3 (by omega) 2 0 (by omega) (by omega) (e1 := 0) (l1 := [⟨2, 1, gB, true, 0, cB, false, false⟩, ⟨3, 1, gB, false, 0, cB, false, false⟩]) rfl rfl)
  clear T3 m3
  go_wp2_with fail
  refine S3.out.mono ?_
  rintro e W4 ⟨rfl, T4, m4⟩
  have w4 : Wf 10 3 [⟨2, 1, gB, true, 0, cB, false, false⟩, ⟨3, 1, gB, false, 0, cB, false, false⟩] := w3.exit 2 0
  have S4 := hidP (get_n T4 3 (by omega) (by omega) (p := ⟨3, 1, gB, false, 0, cB, false, false⟩) (b := true) rfl rfl)
  clear T4 m4
  go_wp2_with fail
  refine S4.out.mono ?_
  rintro e W5 ⟨rfl, T5, m5⟩
  have T5' := T5.below ((Below.refl _ _).alloc (Nat.le_refl _) (.cells #[.int .i64 3, .int .i64 1, .string ⟨#[103]⟩, .bool false, .int .i64 0, .string ⟨#[99]⟩] 40))
  have k5 : (W5.alloc (.cells #[.int .i64 3, .int .i64 1, .string ⟨#[103]⟩, .bool false, .int .i64 0, .string ⟨#[99]⟩] 40)).cell? ⟨W5.heap.size, 1, none⟩ = some (.int .i64 1) := cell_at rfl rfl
  have n5 : ¬ (W5.heap.size = bt ∨ W5.heap.size = bm) := by have := T5.tb.lt; have := T5.tb.ltm; omega
  have S5 := hidP (reap_n T5' w4 (by omega) 1 (p := ⟨2, 1, gB, true, 0, cB, false, false⟩) (e1 := 0) (l1 := [⟨3, 1, gB, false, 0, cB, false, false⟩]) rfl rfl rfl)
  clear T5 T5'
  simp only [prV, gB, cB] at S5 ⊢
  go_wp2_with fail
  refine S5.out.mono ?_
  rintro e W6 ⟨rfl, T6, m6⟩
  have w5 : Wf 10 3 [⟨3, 1, gB, false, 0, cB, false, false⟩] := w4.reap 1
  have T6' := T6.below ((Below.refl _ _).alloc (Nat.le_refl _) (.cells #[.int .i64 2, .int .i64 1, .string ⟨#[103]⟩, .bool true, .int .i64 0, .string ⟨#[99]⟩] 40))
  have k6 := (Mv.alloc (fun _ => False) W6 (.cells #[.int .i64 2, .int .i64 1, .string ⟨#[103]⟩, .bool true, .int .i64 0, .string ⟨#[99]⟩] 40)).cell (fun h => h) (m6.cell n5 k5)
  have S6 := hidP (len_n T6' (n := 1) rfl)
  clear T6 T6' m6 k5
  go_wp2_with fail
  refine S6.out.mono ?_
  rintro e W7 ⟨rfl, T7, m7⟩
  have S7 := hidP (exit_n T7 w5 (by omega) 1 0 (by omega) (by omega) (e1 := 80) rfl rfl)
  clear T7 m7
  go_wp2_with fail
  refine S7.out.mono ?_
  rintro e W8 ⟨rfl, T8, m8⟩
  have hb := hidP T8.be
  clear T8 m8
  go_wp2_with fail
  go_ret
  exact ⟨rfl, hb.out⟩
end Go.Proofs.Ytcikjnifkoagpaa
