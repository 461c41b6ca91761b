/- ProcPlays: each call of both. -/
import Derived.Test.YtcikjnifkoagpaaLQ
import Derived.Test.YtcikjnifkoagpaaPE
import Derived.Test.YtcikjnifkoagpaaOpT
namespace Go.Proofs.Ytcikjnifkoagpaa
open Go.RowKit Go.Shelf
/-- The step's box. -/
def Dx (D : Nat) (x : Stp) (W : World) : Prop := W.cell? ⟨D, 0, none⟩ = some (.int .i64 x.1) ∧ W.cell? ⟨D, 1, none⟩ = some (.int .i64 x.2.1) ∧ W.cell? ⟨D, 2, none⟩ = some (.int .i64 x.2.2.1) ∧ W.cell? ⟨D, 3, none⟩ = some (.string x.2.2.2.1) ∧ W.cell? ⟨D, 4, none⟩ = some (.string x.2.2.2.2)
theorem Dx.mv {D : Nat} {x : Stp} {W V : World} (h : Dx D x W) (m : Mv (fun k => ¬ k = D) W V) : Dx D x V :=
  ⟨m.cell (a := ⟨D, 0, none⟩) (fun f => f rfl) h.1, m.cell (a := ⟨D, 1, none⟩) (fun f => f rfl) h.2.1, m.cell (a := ⟨D, 2, none⟩) (fun f => f rfl) h.2.2.1, m.cell (a := ⟨D, 3, none⟩) (fun f => f rfl) h.2.2.2.1, m.cell (a := ⟨D, 4, none⟩) (fun f => f rfl) h.2.2.2.2⟩
structure Pq (w : World) (bt bm rb D : Nat) (room last : Int) (l : Ps) (x : Stp) (W : World) : Prop where
  m : Md w (fun k => k = D) bt bm rb room last l last (one :: l) W
  f : Wf room last l
  d : Dx D x W
theorem Pq.below {w : World} {bt bm rb D : Nat} {room last : Int} {l : Ps} {x : Stp} {W V : World} (h : Pq w bt bm rb D room last l x W) (b : Below W.heap.size W V) : Pq w bt bm rb D room last l x V := ⟨h.m.below b, h.f, h.d.mv (Mv.below b)⟩
abbrev bd (k : Int) : Prop := -9223372036854775808 ≤ k ∧ k ≤ 9223372036854775807
/-- Behind both: the two agree. -/
def Two (w : World) (bt bm rb D : Nat) (room last : Int) (x : Stp) (f : Nat) (args : Array Value) (v : Value) (V : World) : Prop := Dx D x V ∧ Calls Try.prog f args V fun e V2 => e = .returned v ∧ ∃ last' l', last' ≤ last + 1 ∧ Pq w bt bm rb D room last' l' x V2
theorem spawn_two {w : World} {bt bm rb D : Nat} {room last : Int} {l : Ps} {x : Stp} {W : World} (h : Pq w bt bm rb D room last l x W) (hl : last ≤ 1000000) (k : Int) (hk : bd k) (g c : ByteArray) :
    ∃ n e : Int, Calls Try.prog 7 #[ptr bt, .int .i64 k, .string g, .string c] W fun e1 V => e1 = .returned (.tuple #[.int .i64 n, .int .i64 e]) ∧ Two w bt bm rb D room last x 8 #[ptr rb, .int .i64 k, .string g, .string c] (.tuple #[.int .i64 n, .int .i64 e]) V := by
  obtain ⟨s, hs⟩ : ∃ s, spP room last l k g c = s := ⟨_, rfl⟩
  refine ⟨s.n, s.e, (h.m.code (fun t => spawn_n t h.f hl k g c hk.1 hk.2 hs)).mono ?_⟩
  rintro e1 V ⟨rfl, m, mv⟩
  have ag := spawn_agree room last l k g c
  rw [hs] at ag
  have hwf := h.f.spawn k g c
  have hls := (sp_last room last l k g c).2
  rw [hs] at hwf hls
  have len := h.f.len'
  refine ⟨rfl, h.d.mv mv, (m.ref (lr' := s.last) (r' := one :: s.l) (R := fun e => e = .returned (.tuple #[.int .i64 s.n, .int .i64 s.e])) (fun g' cap h' => ?_)).mono ?_⟩
  · have := rspawn_any k g c V h' (by simp; omega) (by have := h.f.la; omega) hl
    rw [ag] at this
    exact this
  · rintro e2 V2 ⟨rfl, m2, mv2⟩
    exact ⟨rfl, s.last, s.l, hls, m2, hwf, (h.d.mv mv).mv mv2⟩
theorem fork_two {w : World} {bt bm rb D : Nat} {room last : Int} {l : Ps} {x : Stp} {W : World} (h : Pq w bt bm rb D room last l x W) (hl : last ≤ 1000000) (k : Int) (hk : bd k) :
    ∃ n e : Int, Calls Try.prog 9 #[ptr bt, .int .i64 k] W fun e1 V => e1 = .returned (.tuple #[.int .i64 n, .int .i64 e]) ∧ Two w bt bm rb D room last x 10 #[ptr rb, .int .i64 k] (.tuple #[.int .i64 n, .int .i64 e]) V := by
  obtain ⟨s, hs⟩ : ∃ s, fkP room last l k = s := ⟨_, rfl⟩
  refine ⟨s.n, s.e, (h.m.code (fun t => fork_n t h.f hl k hk.1 hk.2 hs)).mono ?_⟩
  rintro e1 V ⟨rfl, m, mv⟩
  have ag := fork_agree h.f k
  rw [hs] at ag
  have hwf := h.f.fork k
  have hls := (fk_last room last l k).2
  rw [hs] at hwf hls
  have len := h.f.len'
  refine ⟨rfl, h.d.mv mv, (m.ref (lr' := s.last) (r' := one :: s.l) (R := fun e => e = .returned (.tuple #[.int .i64 s.n, .int .i64 s.e])) (fun g' cap h' => ?_)).mono ?_⟩
  · have := rfork_any k V h' (by simp; omega) (by have := h.f.la; omega) hl
    rw [ag] at this
    exact this
  · rintro e2 V2 ⟨rfl, m2, mv2⟩
    exact ⟨rfl, s.last, s.l, hls, m2, hwf, (h.d.mv mv).mv mv2⟩
theorem exit_two {w : World} {bt bm rb D : Nat} {room last : Int} {l : Ps} {x : Stp} {W : World} (h : Pq w bt bm rb D room last l x W) (hl : last ≤ 1000000) (k s : Int) (hk : bd k) :
    Calls Try.prog 11 #[ptr bt, .int .i64 k, .int .i64 s] W fun e1 V => e1 = .returned (.int .i64 (exE l k)) ∧ Two w bt bm rb D room last x 12 #[ptr rb, .int .i64 k, .int .i64 s] (.int .i64 (exE l k)) V := by
  obtain ⟨a1, a2⟩ := exit_agree h.f k s
  refine (h.m.code (fun t => exit_n t h.f hl k s hk.1 hk.2 rfl rfl)).mono ?_
  rintro e1 V ⟨rfl, m, mv⟩
  refine ⟨rfl, h.d.mv mv, (m.ref (lr' := last) (r' := one :: exL l k s) (R := fun e => e = .returned (.int .i64 (exE l k))) (fun g' cap h' => ?_)).mono ?_⟩
  · have := rexit_any k s V h'
    rw [a1, a2] at this
    exact this
  · rintro e2 V2 ⟨rfl, m2, mv2⟩
    exact ⟨rfl, last, exL l k s, by omega, m2, h.f.exit k s, (h.d.mv mv).mv mv2⟩
theorem kill_two {w : World} {bt bm rb D : Nat} {room last : Int} {l : Ps} {x : Stp} {W : World} (h : Pq w bt bm rb D room last l x W) (k s : Int) (hk : bd k) :
    Calls Try.prog 13 #[ptr bt, .int .i64 k, .int .i64 s] W fun e1 V => e1 = .returned (.int .i64 (klE l k s)) ∧ Two w bt bm rb D room last x 14 #[ptr rb, .int .i64 k, .int .i64 s] (.int .i64 (klE l k s)) V := by
  obtain ⟨a1, a2⟩ := kill_agree h.f k s
  refine (h.m.code (fun t => kill_n t h.f k s hk.1 hk.2 rfl rfl)).mono ?_
  rintro e1 V ⟨rfl, m, mv⟩
  refine ⟨rfl, h.d.mv mv, (m.ref (lr' := last) (r' := one :: klL l k s) (R := fun e => e = .returned (.int .i64 (klE l k s))) (fun g' cap h' => ?_)).mono ?_⟩
  · have := rkill_any k s V h'
    rw [a1, a2] at this
    exact this
  · rintro e2 V2 ⟨rfl, m2, mv2⟩
    exact ⟨rfl, last, klL l k s, by omega, m2, h.f.kill k s, (h.d.mv mv).mv mv2⟩
end Go.Proofs.Ytcikjnifkoagpaa
