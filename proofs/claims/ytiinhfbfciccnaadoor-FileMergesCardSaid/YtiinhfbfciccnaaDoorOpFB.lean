/- Files that came in, opened. -/
import Derived.Test.YtiinhfbfciccnaaDoorOp
import Derived.Test.YtiinhfbfciccnaaDoorM5bB
namespace Go.Proofs.YtiinhfbfciccnaaDoor
open Go.RowKit Go.ChangeShapes Go.WideShapes
theorem cSt : Tryd.prog.cellsOf 44 = 4 := by kernel_rfl
theorem cFi : Tryd.prog.cellsOf 25 = 1 := by kernel_rfl
theorem cSl : Tryd.prog.cellsOf 23 = 1 := by kernel_rfl
theorem cIn : Tryd.prog.cellsOf 3 = 1 := by kernel_rfl
theorem bSt : Tryd.prog.bytesOf 44 = 56 := by kernel_rfl
theorem bFi : Tryd.prog.bytesOf 25 = 24 := by kernel_rfl
def stOk (x : St) : Prop := x.s.size ≤ 140737488355328 ∧ x.k.size ≤ 140737488355328 ∧ x.v.size ≤ 140737488355328
set_option maxRecDepth 100000 in
theorem rd_set {W : World} {cs : List Value} (h : Rd Tryd.prog W 44 cs) : ∃ x : St, cs = stC x ∧ stOk x := by
  obtain ⟨hl, hx⟩ := rd_struct h Tryd.underlying44
  rw [cSt] at hl
  match cs, hl with
  | [c0, c1, c2, c3], _ =>
    have h0 := hx 0 _ rfl
    have h1 := hx 1 _ rfl
    have h2 := hx 2 _ rfl
    have h3 := hx 3 _ rfl
    simp only [List.getElem_toArray, List.getElem_cons_zero, List.getElem_cons_succ, cellsStr, cIn, List.drop_zero, List.drop_succ_cons, List.take_succ_cons, List.take_zero] at h0 h1 h2 h3
    obtain ⟨a, e0, z0⟩ := rd_string h0 Tryd.underlying9
    obtain ⟨b, e1, z1⟩ := rd_string h1 Tryd.underlying9
    obtain ⟨c, e2, z2⟩ := rd_string h2 Tryd.underlying9
    obtain ⟨n, e3, _⟩ := rd_int h3 Tryd.underlying3
    simp only [List.cons.injEq, and_true] at e0 e1 e2 e3
    subst e0 e1 e2 e3
    exact ⟨⟨a, b, c, n⟩, rfl, z0, z1, z2⟩
theorem spot_of {W : World} {a : Addr} {cs : List Value} {n : Nat} (h : W.cells? 0 (a.add (0 * n)) n = some cs) (hn : 0 < n) : a.spot = none := by
  obtain ⟨hl, hc⟩ := rd_cell h
  have c0 := hc 0 hn
  rw [List.getElem?_eq_getElem (by omega)] at c0
  have := World.cell?_spot c0
  simpa [Addr.add] using this
abbrev inhSt : Inhabited St := ⟨⟨⟨#[]⟩, ⟨#[]⟩, ⟨#[]⟩, 0⟩⟩
set_option maxRecDepth 100000 in
theorem rd_sets {W : World} {v : Value} (h : Rd Tryd.prog W 23 [v]) : ∃ l : List St, SlIs (fun _ => False) W v l ∧ l.length ≤ 140737488355328 ∧ ∀ x ∈ l, stOk x := by
  letI := inhSt
  rcases rd_slice h Tryd.underlying23 with e | ⟨a, len, cap, e, hlc, _, hby, hx⟩
  · simp only [List.cons.injEq, and_true] at e
    subst e
    exact ⟨[], SlIs.nil _ _, by simp, fun x hx => by simp at hx⟩
  · simp only [List.cons.injEq, and_true] at e
    subst e
    rw [bSt] at hby
    unfold reachBytes at hby
    obtain ⟨f, hf⟩ := Go.Deep.choose_lt (α := St) (n := len) (p := fun i q => W.cells? 0 (a.add (i * Tryd.prog.cellsOf 44)) (Tryd.prog.cellsOf 44) = some (stC q) ∧ stOk q) (fun i hi => by
      obtain ⟨cs', h1, h2⟩ := hx i hi
      obtain ⟨q, rfl, hq⟩ := rd_set h2
      exact ⟨q, h1, hq⟩)
    rw [cSt] at hf
    have hln : ((List.range len).map f).length = len := by simp
    refine ⟨(List.range len).map f, ⟨some a, cap, by rw [hln], fun h0 => ?_⟩, by rw [hln]; omega, fun x hx => ?_⟩
    · rw [hln] at h0
      obtain ⟨b, o, spot⟩ := a
      have hs := spot_of (hf 0 h0).1 (by omega)
      dsimp only at hs
      subst hs
      refine ⟨b, o, rfl, fun h => h, fun j x hj => ?_⟩
      have hi : j < len := by have := (List.getElem?_eq_some_iff.1 hj).1; rwa [hln] at this
      have hq : f j = x := by
        rw [List.getElem?_map, List.getElem?_range hi] at hj
        simpa using hj
      obtain ⟨_, hc⟩ := rd_cell (hf j hi).1
      rw [hq] at hc
      have c0 := hc 0 (by omega)
      have c1 := hc 1 (by omega)
      have c2 := hc 2 (by omega)
      have c3 := hc 3 (by omega)
      simp only [Go.WideShapes.add_plain] at c0 c1 c2 c3
      exact ⟨by simpa [stC] using c0, by simpa [stC] using c1, by simpa [stC] using c2, by simpa [stC] using c3⟩
    · obtain ⟨i, hi, rfl⟩ := List.mem_map.1 hx
      exact (hf i (List.mem_range.1 hi)).2
set_option maxRecDepth 100000 in
theorem rd_file {W : World} {cs : List Value} (h : Rd Tryd.prog W 25 cs) : ∃ (v : Value) (l : List St), cs = [v] ∧ SlIs (fun _ => False) W v l ∧ l.length ≤ 140737488355328 ∧ ∀ x ∈ l, stOk x := by
  obtain ⟨hl, hx⟩ := rd_struct h Tryd.underlying25
  rw [cFi] at hl
  match cs, hl with
  | [c0], _ =>
    have h0 := hx 0 _ rfl
    simp only [List.getElem_toArray, List.getElem_cons_zero, cSl, List.drop_zero, List.take_succ_cons, List.take_zero] at h0
    obtain ⟨l, h1, h2, h3⟩ := rd_sets h0
    exact ⟨c0, l, rfl, h1, h2, h3⟩
abbrev inhF : Inhabited (Value × List St) := ⟨(.slice none 0 0, [])⟩
set_option maxRecDepth 100000 in
theorem rd_files {W : World} {v : Value} (h : Rd Tryd.prog W 33 [v]) : ∃ fs : List (Value × List St), FsIs (fun _ => False) W v fs ∧ fs.length ≤ 140737488355328 ∧ (∀ p ∈ fs, p.2.length ≤ 140737488355328) ∧ ∀ p ∈ fs, ∀ x ∈ p.2, x.s.size ≤ 140737488355328 ∧ x.k.size ≤ 140737488355328 ∧ x.v.size ≤ 140737488355328 := by
  letI := inhF
  rcases rd_slice h Tryd.underlying33 with e | ⟨a, len, cap, e, hlc, _, hby, hx⟩
  · simp only [List.cons.injEq, and_true] at e
    subst e
    exact ⟨[], ⟨none, 0, rfl, fun h => by simp at h, fun p hp => by simp at hp⟩, by simp, fun p hp => by simp at hp, fun p hp => by simp at hp⟩
  · simp only [List.cons.injEq, and_true] at e
    subst e
    rw [bFi] at hby
    unfold reachBytes at hby
    obtain ⟨f, hf⟩ := Go.Deep.choose_lt (α := Value × List St) (n := len) (p := fun i q => W.cells? 0 (a.add (i * Tryd.prog.cellsOf 25)) (Tryd.prog.cellsOf 25) = some [q.1] ∧ SlIs (fun _ => False) W q.1 q.2 ∧ q.2.length ≤ 140737488355328 ∧ ∀ x ∈ q.2, stOk x) (fun i hi => by
      obtain ⟨cs', h1, h2⟩ := hx i hi
      obtain ⟨v, l, rfl, hq⟩ := rd_file h2
      exact ⟨(v, l), h1, hq⟩)
    rw [cFi] at hf
    have hln : ((List.range len).map f).length = len := by simp
    have hmem : ∀ p ∈ (List.range len).map f, ∃ i, i < len ∧ f i = p := fun p hp => by
      obtain ⟨i, hi, e⟩ := List.mem_map.1 hp
      exact ⟨i, List.mem_range.1 hi, e⟩
    refine ⟨(List.range len).map f, ⟨some a, cap, by rw [hln], fun h0 => ?_, fun p hp => ?_⟩, by rw [hln]; omega, fun p hp => ?_, fun p hp x hx => ?_⟩
    · rw [hln] at h0
      obtain ⟨b, o, spot⟩ := a
      have hs := spot_of (hf 0 h0).1 (by omega)
      dsimp only at hs
      subst hs
      refine ⟨b, o, rfl, fun h => h, fun j x hj => ?_⟩
      have hi : j < len := by have := (List.getElem?_eq_some_iff.1 hj).1; rwa [hln] at this
      have hq : f j = x := by
        rw [List.getElem?_map, List.getElem?_range hi] at hj
        simpa using hj
      obtain ⟨_, hc⟩ := rd_cell (hf j hi).1
      rw [hq] at hc
      have c0 := hc 0 (by omega)
      simp only [Go.WideShapes.add_plain] at c0
      simpa using c0
    · obtain ⟨i, hi, rfl⟩ := hmem p hp; exact (hf i hi).2.1
    · obtain ⟨i, hi, rfl⟩ := hmem p hp; exact (hf i hi).2.2.1
    · obtain ⟨i, hi, rfl⟩ := hmem p hp; exact (hf i hi).2.2.2 x hx
end Go.Proofs.YtiinhfbfciccnaaDoor
