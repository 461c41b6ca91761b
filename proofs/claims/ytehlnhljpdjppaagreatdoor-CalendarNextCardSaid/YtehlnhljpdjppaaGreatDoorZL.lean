import Derived.OpenShut
import Derived.SliceStrings
import Derived.SizedLaws
import Derived.Deep.Slices
import Derived.Test.YtehlnhljpdjppaaGreatDoorZK
/- Arguments of nested types, opened by their readings: strings, numbers, structs, slices of whatever. -/
namespace Go.Proofs.YtehlnhljpdjppaaGreatDoor
open Go.RowKit Go.ChangeShapes Go.WideShapes
theorem weightsAll_mem {H : Type} {P : Program} {e : TypeId} : ∀ {l : List (DataW H)} {d : DataW H} {n : Nat}, d ∈ l → n ∈ d.weights P e → n ∈ DataW.weightsAll P e l
  | d0 :: l, d, n, hd, hn => by
    simp only [DataW.weightsAll, List.mem_append]
    rcases List.mem_cons.1 hd with rfl | hd
    · exact .inl hn
    · exact .inr (weightsAll_mem hd hn)
/-- These cells read as a value of type t, and no part of it is beyond the reach. -/
def Rd (P : Program) (w : World) (t : TypeId) (cs : List Value) : Prop :=
  ∃ (H : Type) (enc : TypeId × Value → H) (fuel : Nat) (x : DataW H × List MemPlace), DataW.trod enc P w 0 (fun _ => true) true fuel t cs = some x ∧ ∀ n ∈ x.1.weights P t, n ≤ reachBytes
theorem rd_string {P : Program} {w : World} {t : TypeId} {cs : List Value} (h : Rd P w t cs) (ht : P.underlying t = some .string) : ∃ s : ByteArray, cs = [.string s] ∧ s.size ≤ 140737488355328 := by
  obtain ⟨H, enc, fuel, x, h1, h2⟩ := h
  obtain ⟨s, rfl, rfl, _⟩ := DataW.trod_string ht h1
  refine ⟨s, rfl, ?_⟩
  have := h2 s.data.toList.length (by simp [DataW.weights])
  unfold reachBytes at this
  rw [Array.length_toList] at this
  have e : s.size = s.data.size := rfl
  omega
theorem rd_int {P : Program} {w : World} {t : TypeId} {k : IntKind} {cs : List Value} (h : Rd P w t cs) (ht : P.underlying t = some (.int k)) : ∃ n, cs = [.int k n] ∧ (Lit.int k n).wf = true := by
  obtain ⟨H, enc, fuel, x, h1, h2⟩ := h
  obtain ⟨n, rfl, rfl, hw⟩ := DataW.trod_int ht h1
  exact ⟨n, rfl, hw⟩
theorem rd_bool {P : Program} {w : World} {t : TypeId} {cs : List Value} (h : Rd P w t cs) (ht : P.underlying t = some .bool) : ∃ b, cs = [.bool b] := by
  obtain ⟨H, enc, fuel, x, h1, h2⟩ := h
  obtain ⟨b, rfl, rfl⟩ := DataW.trod_bool ht h1
  exact ⟨b, rfl⟩
theorem rd_struct {P : Program} {w : World} {t : TypeId} {fs : Array Field} {cs : List Value} (h : Rd P w t cs) (ht : P.underlying t = some (.struct fs)) :
    cs.length = P.cellsOf t ∧ ∀ (i : Nat) (f : Field), fs[i]? = some f → Rd P w f.type ((cs.drop f.offset).take (P.cellsOf f.type)) := by
  obtain ⟨H, enc, fuel, x, h1, h2⟩ := h
  obtain ⟨xs, n, _, rfl, hl, hxl, hx⟩ := DataW.trod_struct ht h1
  refine ⟨hl, fun i f hf => ?_⟩
  have hi : i < xs.length := by rw [hxl]; exact (Array.getElem?_eq_some_iff.1 hf).1
  refine ⟨H, enc, n, xs[i], by rw [hx i f hf, List.getElem?_eq_getElem hi], fun m hm => h2 m ?_⟩
  simp only [DataW.weights, ht]
  refine DataW.weights_mem_each (j := i) (t := f.type) (d := xs[i].1) ?_ ?_ m hm
  · rw [List.getElem?_map, Array.getElem?_toList, hf]; rfl
  · rw [List.getElem?_map, List.getElem?_eq_getElem hi]; rfl
theorem rd_slice {P : Program} {w : World} {t e : TypeId} {cs : List Value} (h : Rd P w t cs) (ht : P.underlying t = some (.slice e)) :
    cs = [.slice none 0 0] ∨ ∃ (a : Addr) (len cap : Nat), cs = [.slice (some a) len cap] ∧ len ≤ cap ∧ cap ≤ maxLen ∧ cap * P.bytesOf e ≤ reachBytes ∧
      ∀ i, i < len → ∃ cs', w.cells? 0 (a.add (i * P.cellsOf e)) (P.cellsOf e) = some cs' ∧ Rd P w e cs' := by
  obtain ⟨H, enc, fuel, x, h1, h2⟩ := h
  rcases Go.Deep.open_slice ht h1 with ⟨hcs, _⟩ | ⟨a, len, cap, m, n, D, Pl, hcs, _, hl, hm, hmm, rfl, hx⟩
  · exact .inl hcs
  · simp only [if_true] at hmm
    subst hmm
    refine .inr ⟨a, len, m, hcs, hl, hm, ?_, fun i hi => ?_⟩
    · skip
      have h3 := h2 ((((List.range len).map D).length + ((List.range (m - len)).map fun j => D (len + j)).length) * P.bytesOf e) (by simp only [DataW.weights, ht]; exact List.mem_cons_self)
      simp only [List.length_map, List.length_range] at h3
      rwa [show len + (m - len) = m by omega] at h3
    · obtain ⟨cs', c1, c2⟩ := hx i (by omega)
      refine ⟨cs', c1, H, enc, n, _, c2, fun k hk => h2 k ?_⟩
      simp only [DataW.weights, ht, List.mem_cons, List.mem_append]
      exact .inr (.inl (weightsAll_mem (d := D i) (List.mem_map.2 ⟨i, List.mem_range.2 hi, rfl⟩) hk))
/-- The cells of a reading, one by one. -/
theorem rd_cell {w : World} {a : Addr} {n : Nat} {cs : List Value} (h : w.cells? 0 a n = some cs) : cs.length = n ∧ ∀ i, i < n → w.cell? (a.add i) = cs[i]? := by
  obtain ⟨_, h1, h2⟩ := World.cells?_some h
  exact ⟨h1, fun i hi => by simpa using h2 i hi⟩
/-- An argument is read so. -/
theorem rd_of_trod {H : Type} {enc : TypeId × Value → H} {P : Program} {w : World} {t : TypeId} {v : Value} {d : DataW H} {ps : List MemPlace} {ts : List TypeId} {ds : List (DataW H)} {j : Nat}
    (h : DataW.Trod enc P w 0 (fun _ => true) true t v d ps) (hz : (DataW.weightsEach P ts ds).all (· ≤ reachBytes) = true) (ht : ts[j]? = some t) (hd : ds[j]? = some d) : Rd P w t v.cells.toList := by
  obtain ⟨fuel, hf⟩ := h
  refine ⟨H, enc, fuel, (d, ps), hf, fun n hn => ?_⟩
  have := List.all_eq_true.1 hz _ (DataW.weights_mem_each ht hd n hn)
  simpa using this
end Go.Proofs.YtehlnhljpdjppaaGreatDoor
/- A calendar expression that came in, opened. -/
namespace Go.Proofs.YtehlnhljpdjppaaGreatDoor
open Go.RowKit Go.ChangeShapes Go.WideShapes
/-- A list of parts, however long. -/
def PinB (W : World) (v : Value) (ps : List Part) : Prop :=
  ∃ p cap, v = .slice p ps.length cap ∧ ∀ i q, ps[i]? = some q → ∃ b o, p = some ⟨b, o, none⟩ ∧ ¬ False ∧
    W.cell? ⟨b, o + i * 4, none⟩ = some (.bool q.1) ∧ W.cell? ⟨b, o + i * 4 + 1, none⟩ = some (.int .i64 q.2.1) ∧ W.cell? ⟨b, o + i * 4 + 2, none⟩ = some (.int .i64 q.2.2.1) ∧ W.cell? ⟨b, o + i * 4 + 3, none⟩ = some (.int .i64 q.2.2.2)
theorem PinB.pin {W : World} {v : Value} {ps : List Part} (h : PinB W v ps) (hl : ps.length ≤ 1000) : Pin (fun _ => False) W v ps := by
  obtain ⟨p, cap, hv, hc⟩ := h
  exact ⟨p, cap, hv, hl, hc⟩
theorem cP : Tryz.prog.cellsOf 80 = 4 := by kernel_rfl
theorem cS : Tryz.prog.cellsOf 22 = 1 := by kernel_rfl
theorem cI : Tryz.prog.cellsOf 3 = 1 := by kernel_rfl
theorem cB : Tryz.prog.cellsOf 4 = 1 := by kernel_rfl
theorem cC : Tryz.prog.cellsOf 24 = 7 := by kernel_rfl
theorem bP : Tryz.prog.bytesOf 80 = 32 := by kernel_rfl
set_option maxRecDepth 100000 in
theorem rd_part {W : World} {cs : List Value} (h : Rd Tryz.prog W 80 cs) : ∃ q : Part, cs = [.bool q.1, .int .i64 q.2.1, .int .i64 q.2.2.1, .int .i64 q.2.2.2] := by
  obtain ⟨hl, hx⟩ := rd_struct h Tryz.underlying80
  rw [cP] at hl
  match cs, hl with
  | [c0, c1, c2, c3], _ =>
    have h0 := hx 0 _ rfl
    have h1 := hx 1 _ rfl
    have h2 := hx 2 _ rfl
    have h3 := hx 3 _ rfl
    simp only [List.getElem_toArray, List.getElem_cons_zero, List.getElem_cons_succ, cB, cI, List.drop_zero, List.drop_succ_cons, List.take_succ_cons, List.take_zero] at h0 h1 h2 h3
    obtain ⟨b, e0⟩ := rd_bool h0 Tryz.underlying4
    obtain ⟨f, e1, _⟩ := rd_int h1 Tryz.underlying3
    obtain ⟨t, e2, _⟩ := rd_int h2 Tryz.underlying3
    obtain ⟨s, e3, _⟩ := rd_int h3 Tryz.underlying3
    simp only [List.cons.injEq, and_true] at e0 e1 e2 e3
    subst e0 e1 e2 e3
    exact ⟨(b, f, t, s), rfl⟩
set_option maxRecDepth 100000 in
theorem rd_parts {W : World} {v : Value} (h : Rd Tryz.prog W 22 [v]) : ∃ (s : Sl) (ps : List Part), v = slv s ∧ PinB W v ps ∧ ps.length ≤ 140737488355328 := by
  rcases rd_slice h Tryz.underlying22 with e | ⟨a, len, cap, e, hlc, _, hby, hx⟩
  · simp only [List.cons.injEq, and_true] at e
    subst e
    exact ⟨(none, 0, 0), [], rfl, ⟨none, 0, rfl, fun i q hq => by simp at hq⟩, by simp⟩
  · simp only [List.cons.injEq, and_true] at e
    subst e
    rw [bP] at hby
    unfold reachBytes at hby
    obtain ⟨f, hf⟩ := Go.Deep.choose_lt (α := Part) (n := len) (p := fun i q => ∃ cs', W.cells? 0 (a.add (i * Tryz.prog.cellsOf 80)) (Tryz.prog.cellsOf 80) = some cs' ∧ cs' = [.bool q.1, .int .i64 q.2.1, .int .i64 q.2.2.1, .int .i64 q.2.2.2]) (fun i hi => by
      obtain ⟨cs', h1, h2⟩ := hx i hi
      obtain ⟨q, hq⟩ := rd_part h2
      exact ⟨q, cs', h1, hq⟩)
    have hln : ((List.range len).map f).length = len := by simp
    refine ⟨(some a, len, cap), (List.range len).map f, rfl, ⟨some a, cap, by rw [hln], fun i q hq => ?_⟩, by rw [hln]; omega⟩
    have hi : i < len := by have := (List.getElem?_eq_some_iff.1 hq).1; rwa [hln] at this
    have hq' : f i = q := by
      rw [List.getElem?_map, List.getElem?_range hi] at hq
      simpa using hq
    obtain ⟨cs', h1, h2⟩ := hf i hi
    rw [hq'] at h2
    rw [cP] at h1
    obtain ⟨_, hc⟩ := rd_cell h1
    obtain ⟨b, o, spot⟩ := a
    have hspot : spot = none := by
      obtain ⟨cs0, g1, g2⟩ := hf 0 (by omega)
      rw [cP] at g1
      have c0 := (rd_cell g1).2 0 (by omega)
      rw [g2] at c0
      have := World.cell?_spot c0
      simpa [Addr.add] using this
    subst hspot
    have c0 := hc 0 (by omega)
    have c1 := hc 1 (by omega)
    have c2 := hc 2 (by omega)
    have c3 := hc 3 (by omega)
    rw [h2] at c0 c1 c2 c3
    simp only [Go.WideShapes.add_plain] at c0 c1 c2 c3
    exact ⟨b, o, rfl, fun h => h, by simpa using c0, by simpa using c1, by simpa using c2, by simpa using c3⟩
structure CalB (W : World) (S : Nat → Sl) (c : Cal.C7) : Prop where
  p0 : PinB W (slv (S 0)) c.week
  p1 : PinB W (slv (S 1)) c.year
  p2 : PinB W (slv (S 2)) c.month
  p3 : PinB W (slv (S 3)) c.day
  p4 : PinB W (slv (S 4)) c.hour
  p5 : PinB W (slv (S 5)) c.minute
  p6 : PinB W (slv (S 6)) c.second
  l0 : c.week.length ≤ 140737488355328
  l1 : c.year.length ≤ 140737488355328
  l2 : c.month.length ≤ 140737488355328
  l3 : c.day.length ≤ 140737488355328
  l4 : c.hour.length ≤ 140737488355328
  l5 : c.minute.length ≤ 140737488355328
  l6 : c.second.length ≤ 140737488355328
set_option maxRecDepth 100000 in
theorem open_cal {W : World} {b0 : Nat} {v : Value} (hv : Value.okWide Tryz.prog W .any b0 24 v) (h : Rd Tryz.prog W 24 v.cells.toList) : ∃ (S : Nat → Sl) (c : Cal.C7), v = aggC S ∧ CalB W S c := by
  obtain ⟨cs, rfl, _⟩ := okWide_struct Tryz.underlying24 hv
  obtain ⟨hl, hx⟩ := rd_struct h Tryz.underlying24
  obtain ⟨l⟩ := cs
  simp only [Value.cells] at hl hx
  rw [cC] at hl
  match l, hl with
  | [c0, c1, c2, c3, c4, c5, c6], _ =>
    have h0 := hx 0 _ rfl
    have h1 := hx 1 _ rfl
    have h2 := hx 2 _ rfl
    have h3 := hx 3 _ rfl
    have h4 := hx 4 _ rfl
    have h5 := hx 5 _ rfl
    have h6 := hx 6 _ rfl
    simp only [List.getElem_toArray, List.getElem_cons_zero, List.getElem_cons_succ, cS, List.drop_zero, List.drop_succ_cons, List.take_succ_cons, List.take_zero] at h0 h1 h2 h3 h4 h5 h6
    obtain ⟨s0, p0, rfl, q0, l0⟩ := rd_parts h0
    obtain ⟨s1, p1, rfl, q1, l1⟩ := rd_parts h1
    obtain ⟨s2, p2, rfl, q2, l2⟩ := rd_parts h2
    obtain ⟨s3, p3, rfl, q3, l3⟩ := rd_parts h3
    obtain ⟨s4, p4, rfl, q4, l4⟩ := rd_parts h4
    obtain ⟨s5, p5, rfl, q5, l5⟩ := rd_parts h5
    obtain ⟨s6, p6, rfl, q6, l6⟩ := rd_parts h6
    exact ⟨fun j => [s0, s1, s2, s3, s4, s5, s6].getD j (none, 0, 0), ⟨p0, p1, p2, p3, p4, p5, p6⟩, rfl, q0, q1, q2, q3, q4, q5, q6, l0, l1, l2, l3, l4, l5, l6⟩
theorem pinB_len {W : World} {s : Sl} {ps : List Part} (h : PinB W (slv s) ps) : s.2.1 = ps.length := by
  obtain ⟨p, cap, hv, _⟩ := h
  injection hv with h1 h2 h3
def fewN (c : Cal.C7) : Nat := c.week.length + c.year.length + c.month.length + c.day.length + c.hour.length + c.minute.length + c.second.length
theorem CalB.pin {W : World} {S : Nat → Sl} {c : Cal.C7} (h : CalB W S c) (hf : fewN c ≤ 60) : CalPin (fun _ => False) W S c := by
  unfold fewN at hf
  exact ⟨h.p0.pin (by omega), h.p1.pin (by omega), h.p2.pin (by omega), h.p3.pin (by omega), h.p4.pin (by omega), h.p5.pin (by omega), h.p6.pin (by omega)⟩
set_option maxRecDepth 100000 in
set_option maxHeartbeats 2000000 in
theorem few_any (S : Nat → Sl) (c : Cal.C7) (W : World) (h : CalB W S c) (w : World) : Calls Tryz.prog 5 #[aggC S] w fun e w' => e = .returned (.bool (decide (fewN c ≤ 60))) ∧ Below w.heap.size w w' := by
  have e0 := pinB_len h.p0
  have e1 := pinB_len h.p1
  have e2 := pinB_len h.p2
  have e3 := pinB_len h.p3
  have e4 := pinB_len h.p4
  have e5 := pinB_len h.p5
  have e6 := pinB_len h.p6
  obtain ⟨_, _, _, _, _, _, _, l0, l1, l2, l3, l4, l5, l6⟩ := h
  have hd : Hid (fewN c = (S 0).2.1 + (S 1).2.1 + (S 2).2.1 + (S 3).2.1 + (S 4).2.1 + (S 5).2.1 + (S 6).2.1) := by show _ = _; unfold fewN; omega
  rw [← e0] at l0
  rw [← e1] at l1
  rw [← e2] at l2
  rw [← e3] at l3
  rw [← e4] at l4
  rw [← e5] at l5
  rw [← e6] at l6
  clear e0 e1 e2 e3 e4 e5 e6
  have hB : Below w.heap.size w (w.alloc (.cells #[slv (S 0), slv (S 1), slv (S 2), slv (S 3), slv (S 4), slv (S 5), slv (S 6)] 24)) := (Below.refl _ _).alloc (Nat.le_refl _) _
  go_enter Tryz.func5, Tryz.ntmps5
  go_wp2_with fail
  go_ret
  refine ⟨ret_bool ?_, hB⟩
  rw [hd.out, Bool.eq_iff_iff]
  simp
  omega
end Go.Proofs.YtehlnhljpdjppaaGreatDoor
