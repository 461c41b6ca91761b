/- A row of steps of TreePlays that came in, opened. -/
import Derived.Test.YtnniahlacfflmaaDoorOp
import Derived.Test.YtnniahlacfflmaaDoorProg
namespace Go.Proofs.YtnniahlacfflmaaDoor
open Go.RowKit Go.ChangeShapes Go.WideShapes
/-- A step: what, the path, the text, a folder or not. -/
structure Stp where
  wh : Int
  p : ByteArray
  t : ByteArray
  f : Bool
def Stp.ok (x : Stp) : Prop := (Lit.int .i64 x.wh).wf = true ∧ x.p.size ≤ 140737488355328 ∧ x.t.size ≤ 140737488355328
/-- A step in memory. -/
def SpAt (W : World) (b o : Nat) (x : Stp) : Prop := W.cell? ⟨b, o, none⟩ = some (.int .i64 x.wh) ∧ W.cell? ⟨b, o + 1, none⟩ = some (.string x.p) ∧ W.cell? ⟨b, o + 2, none⟩ = some (.string x.t) ∧ W.cell? ⟨b, o + 3, none⟩ = some (.bool x.f)
/-- A row of steps in memory. -/
def StepsAt (W : World) (p : Option Addr) (l : List Stp) : Prop :=
  ∀ (i : Nat) (x : Stp), l[i]? = some x → x.ok ∧ ∃ b o, p = some ⟨b, o, none⟩ ∧ SpAt W b (o + i * 4) x
theorem cSt : Tryd.prog.cellsOf 29 = 4 := by kernel_rfl
theorem cIS : Tryd.prog.cellsOf 3 = 1 := by kernel_rfl
theorem cBS : Tryd.prog.cellsOf 4 = 1 := by kernel_rfl
theorem cSS : Tryd.prog.cellsOf 9 = 1 := by kernel_rfl
theorem bSt : Tryd.prog.bytesOf 29 = 48 := by kernel_rfl
set_option maxRecDepth 100000 in
theorem rd_step {W : World} {cs : List Value} (h : Rd Tryd.prog W 29 cs) : ∃ x : Stp, x.ok ∧ cs = [.int .i64 x.wh, .string x.p, .string x.t, .bool x.f] := by
  obtain ⟨hl, hx⟩ := rd_struct h Tryd.underlying29
  rw [cSt] at hl
  match cs, hl with
  | [c0, c1, c2, c3], _ =>
    have h0 := hx 0 _ rfl
    have h1 := hx 1 _ rfl
    have h2 := hx 2 _ rfl
    have h3 := hx 3 _ rfl
    simp only [List.getElem_toArray, List.getElem_cons_zero, List.getElem_cons_succ, cIS, cSS, cBS, List.drop_zero, List.drop_succ_cons, List.take_succ_cons, List.take_zero] at h0 h1 h2 h3
    obtain ⟨a, e0, w0⟩ := rd_int h0 Tryd.underlying3
    obtain ⟨u, e1, w1⟩ := rd_string h1 Tryd.underlying9
    obtain ⟨v, e2, w2⟩ := rd_string h2 Tryd.underlying9
    obtain ⟨b, e3⟩ := rd_bool h3 Tryd.underlying4
    simp only [List.cons.injEq, and_true] at e0 e1 e2 e3
    subst e0 e1 e2 e3
    exact ⟨⟨a, u, v, b⟩, ⟨w0, w1, w2⟩, rfl⟩
set_option maxRecDepth 100000 in
theorem rd_steps {W : World} {v : Value} (h : Rd Tryd.prog W 22 [v]) : ∃ (p : Option Addr) (cap : Nat) (l : List Stp), v = .slice p l.length cap ∧ StepsAt W p l ∧ l.length ≤ 140737488355328 := by
  letI : Inhabited Stp := ⟨⟨0, ⟨#[]⟩, ⟨#[]⟩, false⟩⟩
  rcases rd_slice h Tryd.underlying22 with e | ⟨a, len, cap, e, hlc, _, hby, hx⟩
  · simp only [List.cons.injEq, and_true] at e
    subst e
    exact ⟨none, 0, [], rfl, fun i q hq => by simp at hq, by simp⟩
  · simp only [List.cons.injEq, and_true] at e
    subst e
    rw [bSt] at hby
    unfold reachBytes at hby
    obtain ⟨f, hf⟩ := Go.Deep.choose_lt (α := Stp) (n := len) (p := fun i x => x.ok ∧ ∃ cs', W.cells? 0 (a.add (i * Tryd.prog.cellsOf 29)) (Tryd.prog.cellsOf 29) = some cs' ∧ cs' = [.int .i64 x.wh, .string x.p, .string x.t, .bool x.f]) (fun i hi => by
      obtain ⟨cs', h1, h2⟩ := hx i hi
      obtain ⟨q, hok, hq⟩ := rd_step h2
      exact ⟨q, hok, cs', h1, hq⟩)
    have hln : ((List.range len).map f).length = len := by simp
    refine ⟨some a, cap, (List.range len).map f, by rw [hln], fun i x hq => ?_, by rw [hln]; omega⟩
    have hi : i < len := by have := (List.getElem?_eq_some_iff.1 hq).1; rwa [hln] at this
    have hq' : f i = x := by
      rw [List.getElem?_map, List.getElem?_range hi] at hq
      simpa using hq
    obtain ⟨hok, cs', h1, h2⟩ := hf i hi
    rw [hq'] at h2 hok
    rw [cSt] at h1
    obtain ⟨_, hc⟩ := rd_cell h1
    obtain ⟨b, o, spot⟩ := a
    have hspot : spot = none := by
      obtain ⟨_, cs0, g1, g2⟩ := hf 0 (by omega)
      rw [cSt] at g1
      have c0 := (rd_cell g1).2 0 (by omega)
      rw [g2] at c0
      have := World.cell?_spot c0
      simpa [Addr.add] using this
    subst hspot
    have c0 := hc 0 (by omega)
    have c1 := hc 1 (by omega)
    have c2 := hc 2 (by omega)
    have c3 := hc 3 (by omega)
    rw [h2] at c0 c1 c2 c3
    simp only [Go.WideShapes.add_plain] at c0 c1 c2 c3
    exact ⟨hok, b, o, rfl, by simpa using c0, by simpa using c1, by simpa using c2, by simpa using c3⟩
theorem rd_steps2 {W : World} {a : Option Addr} {len cap : Nat} (h : Rd Tryd.prog W 22 [.slice a len cap]) : ∃ l : List Stp, l.length = len ∧ StepsAt W a l ∧ len ≤ 140737488355328 := by
  obtain ⟨p, c, l, e, h1, h2⟩ := rd_steps h
  injection e with e1 e2 e3
  subst e1
  exact ⟨l, e2.symm, h1, by omega⟩
end Go.Proofs.YtnniahlacfflmaaDoor
