/- A row of steps that came in, opened. -/
import Derived.Test.YtcikjnifkoagpaaOp
import Derived.Test.YtcikjnifkoagpaaProg
namespace Go.Proofs.Ytcikjnifkoagpaa
open Go.RowKit Go.ChangeShapes Go.WideShapes
/-- A step: what, the two numbers, the two texts. -/
abbrev Stp := Int × Int × Int × ByteArray × ByteArray
def Stp.ok (x : Stp) : Prop := (Lit.int .i64 x.1).wf = true ∧ (Lit.int .i64 x.2.1).wf = true ∧ (Lit.int .i64 x.2.2.1).wf = true ∧ x.2.2.2.1.size ≤ 140737488355328 ∧ x.2.2.2.2.size ≤ 140737488355328
/-- A row of steps in memory. -/
def StepsAt (W : World) (p : Option Addr) (l : List Stp) : Prop :=
  ∀ (i : Nat) (x : Stp), l[i]? = some x → x.ok ∧ ∃ b o, p = some ⟨b, o, none⟩ ∧ W.cell? ⟨b, o + i * 5, none⟩ = some (.int .i64 x.1) ∧ W.cell? ⟨b, o + i * 5 + 1, none⟩ = some (.int .i64 x.2.1) ∧ W.cell? ⟨b, o + i * 5 + 2, none⟩ = some (.int .i64 x.2.2.1) ∧ W.cell? ⟨b, o + i * 5 + 3, none⟩ = some (.string x.2.2.2.1) ∧ W.cell? ⟨b, o + i * 5 + 4, none⟩ = some (.string x.2.2.2.2)
theorem cSt : Try.prog.cellsOf 29 = 5 := by kernel_rfl
theorem cIS : Try.prog.cellsOf 3 = 1 := by kernel_rfl
theorem cSS : Try.prog.cellsOf 9 = 1 := by kernel_rfl
theorem bSt : Try.prog.bytesOf 29 = 56 := by kernel_rfl
set_option maxRecDepth 100000 in
theorem rd_step {W : World} {cs : List Value} (h : Rd Try.prog W 29 cs) : ∃ x : Stp, x.ok ∧ cs = [.int .i64 x.1, .int .i64 x.2.1, .int .i64 x.2.2.1, .string x.2.2.2.1, .string x.2.2.2.2] := by
  obtain ⟨hl, hx⟩ := rd_struct h Try.underlying29
  rw [cSt] at hl
  match cs, hl with
  | [c0, c1, c2, c3, c4], _ =>
    have h0 := hx 0 _ rfl
    have h1 := hx 1 _ rfl
    have h2 := hx 2 _ rfl
    have h3 := hx 3 _ rfl
    have h4 := hx 4 _ rfl
    simp only [List.getElem_toArray, List.getElem_cons_zero, List.getElem_cons_succ, cIS, cSS, List.drop_zero, List.drop_succ_cons, List.take_succ_cons, List.take_zero] at h0 h1 h2 h3 h4
    obtain ⟨a, e0, w0⟩ := rd_int h0 Try.underlying3
    obtain ⟨b, e1, w1⟩ := rd_int h1 Try.underlying3
    obtain ⟨c, e2, w2⟩ := rd_int h2 Try.underlying3
    obtain ⟨s, e3, w3⟩ := rd_string h3 Try.underlying9
    obtain ⟨u, e4, w4⟩ := rd_string h4 Try.underlying9
    simp only [List.cons.injEq, and_true] at e0 e1 e2 e3 e4
    subst e0 e1 e2 e3 e4
    exact ⟨(a, b, c, s, u), ⟨w0, w1, w2, w3, w4⟩, rfl⟩
set_option maxRecDepth 100000 in
theorem rd_steps {W : World} {v : Value} (h : Rd Try.prog W 22 [v]) : ∃ (p : Option Addr) (cap : Nat) (l : List Stp), v = .slice p l.length cap ∧ StepsAt W p l ∧ l.length ≤ 140737488355328 := by
  rcases rd_slice h Try.underlying22 with e | ⟨a, len, cap, e, hlc, _, hby, hx⟩
  · simp only [List.cons.injEq, and_true] at e
    subst e
    exact ⟨none, 0, [], rfl, fun i q hq => by simp at hq, by simp⟩
  · simp only [List.cons.injEq, and_true] at e
    subst e
    rw [bSt] at hby
    unfold reachBytes at hby
    obtain ⟨f, hf⟩ := Go.Deep.choose_lt (α := Stp) (n := len) (p := fun i x => x.ok ∧ ∃ cs', W.cells? 0 (a.add (i * Try.prog.cellsOf 29)) (Try.prog.cellsOf 29) = some cs' ∧ cs' = [.int .i64 x.1, .int .i64 x.2.1, .int .i64 x.2.2.1, .string x.2.2.2.1, .string x.2.2.2.2]) (fun i hi => by
      obtain ⟨cs', h1, h2⟩ := hx i hi
      obtain ⟨q, hok, hq⟩ := rd_step h2
      exact ⟨q, hok, cs', h1, hq⟩)
    have hln : ((List.range len).map f).length = len := by simp
    refine ⟨some a, cap, (List.range len).map f, by rw [hln], fun i x hq => ?_, by rw [hln]; omega⟩
    have hi : i < len := by have := (List.getElem?_eq_some_iff.1 hq).1; rwa [hln] at this
    have hq' : f i = x := by
      rw [List.getElem?_map, List.getElem?_range hi] at hq
      simpa using hq
    obtain ⟨hok, cs', h1, h2⟩ := hf i hi
    rw [hq'] at h2 hok
    rw [cSt] at h1
    obtain ⟨_, hc⟩ := rd_cell h1
    obtain ⟨b, o, spot⟩ := a
    have hspot : spot = none := by
      obtain ⟨_, cs0, g1, g2⟩ := hf 0 (by omega)
      rw [cSt] at g1
      have c0 := (rd_cell g1).2 0 (by omega)
      rw [g2] at c0
      have := World.cell?_spot c0
      simpa [Addr.add] using this
    subst hspot
    have c0 := hc 0 (by omega)
    have c1 := hc 1 (by omega)
    have c2 := hc 2 (by omega)
    have c3 := hc 3 (by omega)
    have c4 := hc 4 (by omega)
    rw [h2] at c0 c1 c2 c3 c4
    simp only [Go.WideShapes.add_plain] at c0 c1 c2 c3 c4
    exact ⟨hok, b, o, rfl, by simpa using c0, by simpa using c1, by simpa using c2, by simpa using c3, by simpa using c4⟩
end Go.Proofs.Ytcikjnifkoagpaa
