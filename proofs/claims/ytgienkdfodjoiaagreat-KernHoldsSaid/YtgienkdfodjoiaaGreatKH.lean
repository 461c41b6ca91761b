/- KernHolds: the kernel's steps, as far as the law goes. -/
import Derived.Test.YtgienkdfodjoiaaGreatKR
namespace Go.Proofs.YtgienkdfodjoiaaGreat
open Go.RowKit Go.Shelf
structure Ho (w : World) (kb D c : Nat) (p : Pl) (W : World) : Prop where
  i : Iv p
  t : three p.gl
  k : Kp (FA D) w kb c p W
/-- Behind a step that told nn. -/
def Hq (w : World) (kb D c : Nat) (p : Pl) (nn : Int) (W : World) : Prop := ∃ p', max p.last nn = p'.last ∧ Ho w kb D c p' W
theorem Ho.below {w : World} {kb D c : Nat} {p : Pl} {W W' : World} (h : Ho w kb D c p W) (b : Below W.heap.size W W') : Ho w kb D c p W' := ⟨h.i, h.t, h.k.below b⟩
theorem Ho.mono {w : World} {kb D c d : Nat} {p : Pl} {W : World} (h : Ho w kb D c p W) (hd : c ≤ d) : Ho w kb D d p W := ⟨h.i, h.t, h.k.mono hd⟩
theorem Ho.la {w : World} {kb D c : Nat} {p : Pl} {W : World} (h : Ho w kb D c p W) : 1 ≤ p.last ∧ p.last ≤ c := ⟨h.k.pw.pw.la, h.k.pw.la⟩
theorem ho_spawn {w : World} {kb D c : Nat} {p : Pl} {W : World} (h : Ho w kb D c p W) (hc : c ≤ 1000) (g cm : ByteArray) (hg : g.size ≤ 1000) :
    Calls Tryz.prog 13 #[kptr kb, .string g, .string cm] W fun e W' => ∃ nn ee, e = .returned (.tuple #[.int .i64 nn, .int .i64 ee]) ∧ Hq w kb D (c + 2) p nn W' :=
  (spawn_p h.k hc g cm hg).mono (fun _ _ q => ⟨_, _, q.1, _, (h.i.spawn h.k.pw.pw h.k.gw g cm).2, (h.i.spawn h.k.pw.pw h.k.gw g cm).1, h.t.spawn g cm, q.2⟩)
theorem ho_fork {w : World} {kb D c : Nat} {p : Pl} {W : World} (h : Ho w kb D c p W) (hc : c ≤ 1000) (k : Int) (h0 : -9223372036854775808 ≤ k) (h1 : k ≤ 9223372036854775807) :
    Calls Tryz.prog 15 #[kptr kb, .int .i64 k] W fun e W' => ∃ nn ee, e = .returned (.tuple #[.int .i64 nn, .int .i64 ee]) ∧ Hq w kb D (c + 2) p nn W' :=
  (fork_p h.k hc k h0 h1).mono (fun _ _ q => ⟨_, _, q.1, _, (h.i.fork h.k.pw.pw h.k.gw k).2, (h.i.fork h.k.pw.pw h.k.gw k).1, h.t.fork k, q.2⟩)
theorem ho_exit {w : World} {kb D c : Nat} {p : Pl} {W : World} (h : Ho w kb D c p W) (hc : c ≤ 1000) (k s : Int) (h0 : -9223372036854775808 ≤ k) (h1 : k ≤ 9223372036854775807) :
    Calls Tryz.prog 17 #[kptr kb, .int .i64 k, .int .i64 s] W fun e W' => ∃ ee, e = .returned (.int .i64 ee) ∧ Hq w kb D (c + 2) p 0 W' :=
  (exit_p h.k hc k s h0 h1).mono (fun _ _ q => ⟨_, q.1, _, (by show max p.last 0 = p.last; have := h.la.1; omega), h.i.exit h.k.pw.pw.srt k s, h.t.exit k s, q.2.mono (by omega)⟩)
theorem ho_die {w : World} {kb D c : Nat} {p : Pl} {W : World} (h : Ho w kb D c p W) (hc : c ≤ 1000) (k : Int) (h0 : -9223372036854775808 ≤ k) (h1 : k ≤ 9223372036854775807) :
    Calls Tryz.prog 19 #[kptr kb, .int .i64 k] W fun e W' => ∃ ee, e = .returned (.int .i64 ee) ∧ Hq w kb D (c + 2) p 0 W' :=
  (die_p h.k hc k h0 h1).mono (fun _ _ q => ⟨_, q.1, _, (by show max p.last 0 = (dieQ p k).last; have := h.la.1; have : (dieQ p k).last = p.last := (by unfold dieQ; split <;> rfl); omega), h.i.die h.k.pw.pw.srt k, h.t.die k, q.2.mono (by omega)⟩)
theorem ho_killg {w : World} {kb D c : Nat} {p : Pl} {W : World} (h : Ho w kb D c p W) (hc : c ≤ 1000) (g : ByteArray) (hg : g.size ≤ 1000) (s : Int) :
    Calls Tryz.prog 23 #[kptr kb, .string g, .int .i64 s] W fun e W' => ∃ ee, e = .returned (.int .i64 ee) ∧ Hq w kb D (c + 2) p 0 W' :=
  (killg_p h.k hc g hg s).mono (fun _ _ q => ⟨_, q.1, _, (by show max p.last 0 = p.last; have := h.la.1; omega), h.i.killg h.k.pw.pw.srt g s, h.t, q.2.mono (by omega)⟩)
theorem ho_reap {w : World} {kb D c : Nat} {p : Pl} {W : World} (h : Ho w kb D c p W) (hc : c ≤ 1000) :
    Calls Tryz.prog 25 #[kptr kb] W fun e W' => ∃ a b c' d e' f ee, e = .returned (.tuple #[.agg #[.int .i64 a, .int .i64 b, .string c', .bool d, .int .i64 e', .string f], .int .i64 ee]) ∧ Hq w kb D (c + 2) p 0 W' :=
  (reap_p h.k hc).mono (fun _ _ q => ⟨_, _, _, _, _, _, _, q.1, _, (by show max p.last 0 = p.last; have := h.la.1; omega), h.i.reap h.k.pw.pw.srt, h.t, q.2.mono (by omega)⟩)
theorem ho_of {w : World} {kb D c : Nat} {p : Pl} {W : World} (h : Ho w kb D c p W) (k : Int) (h0 : -9223372036854775808 ≤ k) (h1 : k ≤ 9223372036854775807) :
    Calls Tryz.prog 49 #[gptr kb, .int .i64 k] W fun e W' => e = .returned (.tuple #[.string (Cg.ofN p.gl k), .bool (Cg.hm p.gl k).isSome]) ∧ Ho w kb D c p W' ∧ Below W.heap.size W W' := by
  have hh := h
  obtain ⟨i, t, K, h, f⟩ := h
  have e := h.pl
  have hb := h.bt
  subst e hb
  refine (Cg.of_any (K.S.at W) k W h.k.g h0 h1).mono ?_
  rintro e W' ⟨rfl, h3⟩
  exact ⟨rfl, hh.below h3, h3⟩
def sumN (gl : Cg.Gl) : Nat → Nat
  | 0 => 0
  | j + 1 => sumN gl j + (Cg.mOf gl (nm3 j)).length
theorem Ho.few {w : World} {kb D c : Nat} {p : Pl} {W : World} (h : Ho w kb D c p W) (s : ByteArray) : (Cg.mOf p.gl s).length ≤ c := by
  unfold Cg.mOf
  cases e : Cg.fnd p.gl s with
  | none => simp
  | some x =>
    obtain ⟨K, hk, _⟩ := h.k
    have e2 : K.S.l = p.gl := congrArg Pl.gl hk.pl
    have h1 := hk.k.g.pl x (by show x ∈ K.S.l; rw [e2]; exact Cg.fnd_mem e)
    have h2 := hk.cc
    have h3 : x.pids.length ≤ K.S.c := h1
    show x.pids.length ≤ c
    omega
theorem Ho.sums {w : World} {kb D c : Nat} {p : Pl} {W : World} (h : Ho w kb D c p W) : ∀ j, sumN p.gl j ≤ j * c
  | 0 => by simp [sumN]
  | j + 1 => by
    have := h.sums j
    have h2 := h.few (nm3 j)
    show sumN p.gl j + _ ≤ _
    rw [Nat.add_mul, Nat.one_mul]
    omega
theorem Ho.ends {w : World} {kb D c : Nat} {p : Pl} {W : World} (h : Ho w kb D c p W) : cnt3 1 p.gl = 0 ∧ cnt3 p.last p.gl = sumN p.gl 3 := by
  have := cnt3_ends h.i h.t h.k.gw h.k.pw.pw
  refine ⟨this.1, this.2.trans ?_⟩
  simp [sumN]
theorem Ho.cnt_le {w : World} {kb D c : Nat} {p : Pl} {W : World} (h : Ho w kb D c p W) (m : Int) : cnt3 m p.gl ≤ 3 * c := by
  have h0 := h.few (nm3 0)
  have h1 := h.few (nm3 1)
  have h2 := h.few (nm3 2)
  have f : ∀ l : List Int, cnt m l ≤ l.length := fun l => List.countP_le_length
  have g0 := f (Cg.mOf p.gl (nm3 0))
  have g1 := f (Cg.mOf p.gl (nm3 1))
  have g2 := f (Cg.mOf p.gl (nm3 2))
  unfold cnt3
  omega
end Go.Proofs.YtgienkdfodjoiaaGreat
