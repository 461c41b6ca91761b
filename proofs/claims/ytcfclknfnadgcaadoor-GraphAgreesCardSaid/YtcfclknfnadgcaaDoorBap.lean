import Derived.OpenShut
import Derived.SliceStrings
import Derived.SizedLaws
import Derived.Deep.Slices
import Derived.Test.YtcfclknfnadgcaaDoorBaf
import Derived.Test.YtcfclknfnadgcaaDoorGH1B
/- Arguments of nested types, opened by their readings: strings, numbers, structs, slices of whatever. -/
namespace Go.Proofs.YtcfclknfnadgcaaDoor
open Go.RowKit Go.ChangeShapes Go.WideShapes
theorem weightsAll_mem {H : Type} {P : Program} {e : TypeId} : ∀ {l : List (DataW H)} {d : DataW H} {n : Nat}, d ∈ l → n ∈ d.weights P e → n ∈ DataW.weightsAll P e l
  | d0 :: l, d, n, hd, hn => by
    simp only [DataW.weightsAll, List.mem_append]
    rcases List.mem_cons.1 hd with rfl | hd
    · exact .inl hn
    · exact .inr (weightsAll_mem hd hn)
/-- These cells read as a value of type t, and no part of it is beyond the reach. -/
def Rd (P : Program) (w : World) (t : TypeId) (cs : List Value) : Prop :=
  ∃ (H : Type) (enc : TypeId × Value → H) (fuel : Nat) (x : DataW H × List MemPlace), DataW.trod enc P w 0 (fun _ => true) true fuel t cs = some x ∧ ∀ n ∈ x.1.weights P t, n ≤ reachBytes
theorem rd_string {P : Program} {w : World} {t : TypeId} {cs : List Value} (h : Rd P w t cs) (ht : P.underlying t = some .string) : ∃ s : ByteArray, cs = [.string s] ∧ s.size ≤ 140737488355328 := by
  obtain ⟨H, enc, fuel, x, h1, h2⟩ := h
  obtain ⟨s, rfl, rfl, _⟩ := DataW.trod_string ht h1
  refine ⟨s, rfl, ?_⟩
  have := h2 s.data.toList.length (by simp [DataW.weights])
  unfold reachBytes at this
  rw [Array.length_toList] at this
  have e : s.size = s.data.size := rfl
  omega
theorem rd_int {P : Program} {w : World} {t : TypeId} {k : IntKind} {cs : List Value} (h : Rd P w t cs) (ht : P.underlying t = some (.int k)) : ∃ n, cs = [.int k n] ∧ (Lit.int k n).wf = true := by
  obtain ⟨H, enc, fuel, x, h1, h2⟩ := h
  obtain ⟨n, rfl, rfl, hw⟩ := DataW.trod_int ht h1
  exact ⟨n, rfl, hw⟩
theorem rd_bool {P : Program} {w : World} {t : TypeId} {cs : List Value} (h : Rd P w t cs) (ht : P.underlying t = some .bool) : ∃ b, cs = [.bool b] := by
  obtain ⟨H, enc, fuel, x, h1, h2⟩ := h
  obtain ⟨b, rfl, rfl⟩ := DataW.trod_bool ht h1
  exact ⟨b, rfl⟩
theorem rd_struct {P : Program} {w : World} {t : TypeId} {fs : Array Field} {cs : List Value} (h : Rd P w t cs) (ht : P.underlying t = some (.struct fs)) :
    cs.length = P.cellsOf t ∧ ∀ (i : Nat) (f : Field), fs[i]? = some f → Rd P w f.type ((cs.drop f.offset).take (P.cellsOf f.type)) := by
  obtain ⟨H, enc, fuel, x, h1, h2⟩ := h
  obtain ⟨xs, n, _, rfl, hl, hxl, hx⟩ := DataW.trod_struct ht h1
  refine ⟨hl, fun i f hf => ?_⟩
  have hi : i < xs.length := by rw [hxl]; exact (Array.getElem?_eq_some_iff.1 hf).1
  refine ⟨H, enc, n, xs[i], by rw [hx i f hf, List.getElem?_eq_getElem hi], fun m hm => h2 m ?_⟩
  simp only [DataW.weights, ht]
  refine DataW.weights_mem_each (j := i) (t := f.type) (d := xs[i].1) ?_ ?_ m hm
  · rw [List.getElem?_map, Array.getElem?_toList, hf]; rfl
  · rw [List.getElem?_map, List.getElem?_eq_getElem hi]; rfl
theorem rd_slice {P : Program} {w : World} {t e : TypeId} {cs : List Value} (h : Rd P w t cs) (ht : P.underlying t = some (.slice e)) :
    cs = [.slice none 0 0] ∨ ∃ (a : Addr) (len cap : Nat), cs = [.slice (some a) len cap] ∧ len ≤ cap ∧ cap ≤ maxLen ∧ cap * P.bytesOf e ≤ reachBytes ∧
      ∀ i, i < len → ∃ cs', w.cells? 0 (a.add (i * P.cellsOf e)) (P.cellsOf e) = some cs' ∧ Rd P w e cs' := by
  obtain ⟨H, enc, fuel, x, h1, h2⟩ := h
  rcases Go.Deep.open_slice ht h1 with ⟨hcs, _⟩ | ⟨a, len, cap, m, n, D, Pl, hcs, _, hl, hm, hmm, rfl, hx⟩
  · exact .inl hcs
  · simp only [if_true] at hmm
    subst hmm
    refine .inr ⟨a, len, m, hcs, hl, hm, ?_, fun i hi => ?_⟩
    · skip
      have h3 := h2 ((((List.range len).map D).length + ((List.range (m - len)).map fun j => D (len + j)).length) * P.bytesOf e) (by simp only [DataW.weights, ht]; exact List.mem_cons_self)
      simp only [List.length_map, List.length_range] at h3
      rwa [show len + (m - len) = m by omega] at h3
    · obtain ⟨cs', c1, c2⟩ := hx i (by omega)
      refine ⟨cs', c1, H, enc, n, _, c2, fun k hk => h2 k ?_⟩
      simp only [DataW.weights, ht, List.mem_cons, List.mem_append]
      exact .inr (.inl (weightsAll_mem (d := D i) (List.mem_map.2 ⟨i, List.mem_range.2 hi, rfl⟩) hk))
/-- The cells of a reading, one by one. -/
theorem rd_cell {w : World} {a : Addr} {n : Nat} {cs : List Value} (h : w.cells? 0 a n = some cs) : cs.length = n ∧ ∀ i, i < n → w.cell? (a.add i) = cs[i]? := by
  obtain ⟨_, h1, h2⟩ := World.cells?_some h
  exact ⟨h1, fun i hi => by simpa using h2 i hi⟩
/-- An argument is read so. -/
theorem rd_of_trod {H : Type} {enc : TypeId × Value → H} {P : Program} {w : World} {t : TypeId} {v : Value} {d : DataW H} {ps : List MemPlace} {ts : List TypeId} {ds : List (DataW H)} {j : Nat}
    (h : DataW.Trod enc P w 0 (fun _ => true) true t v d ps) (hz : (DataW.weightsEach P ts ds).all (· ≤ reachBytes) = true) (ht : ts[j]? = some t) (hd : ds[j]? = some d) : Rd P w t v.cells.toList := by
  obtain ⟨fuel, hf⟩ := h
  refine ⟨H, enc, fuel, (d, ps), hf, fun n hn => ?_⟩
  have := List.all_eq_true.1 hz _ (DataW.weights_mem_each ht hd n hn)
  simpa using this
end Go.Proofs.YtcfclknfnadgcaaDoor
/- Steps that came in, opened. -/
namespace Go.Proofs.YtcfclknfnadgcaaDoor
open Go.RowKit Go.ChangeShapes Go.WideShapes
theorem cUn : Tryd.prog.cellsOf 29 = 33 := by kernel_rfl
theorem cSp : Tryd.prog.cellsOf 31 = 35 := by kernel_rfl
theorem c_string : Tryd.prog.cellsOf 9 = 1 := by kernel_rfl
theorem c_int : Tryd.prog.cellsOf 3 = 1 := by kernel_rfl
theorem c_int64 : Tryd.prog.cellsOf 2 = 1 := by kernel_rfl
theorem c_bool : Tryd.prog.cellsOf 4 = 1 := by kernel_rfl
theorem c_strs : Tryd.prog.cellsOf 27 = 1 := by kernel_rfl
theorem bStr : Tryd.prog.bytesOf 9 = 16 := by kernel_rfl
theorem bSp : 1 ≤ Tryd.prog.bytesOf 31 := by decide +kernel
theorem spot_of {W : World} {a : Addr} {cs : List Value} {n : Nat} (h : W.cells? 0 (a.add (0 * n)) n = some cs) (hn : 0 < n) : a.spot = none := by
  obtain ⟨hl, hc⟩ := rd_cell h
  have c0 := hc 0 hn
  rw [List.getElem?_eq_getElem (by omega)] at c0
  have := World.cell?_spot c0
  simpa [Addr.add] using this
abbrev inhB : Inhabited ByteArray := ⟨⟨#[]⟩⟩
abbrev cg (cs : List Value) (p : Nat) : Value := cs.getD p (.bool false)
theorem fld {W : World} {cs : List Value} {t : TypeId} {p : Nat} (c : Tryd.prog.cellsOf t = 1) (hp : p < cs.length) (q : Rd Tryd.prog W t ((cs.drop p).take (Tryd.prog.cellsOf t))) : Rd Tryd.prog W t [cg cs p] := by
  rw [c] at q
  have e : (cs.drop p).take 1 = [cg cs p] := by
    rw [List.drop_eq_getElem_cons hp, List.take_succ_cons, List.take_zero]
    simp [cg, List.getD_eq_getElem?_getD, hp]
  rwa [e] at q
set_option maxRecDepth 100000 in
theorem rd_strs {W : World} {v : Value} (h : Rd Tryd.prog W 27 [v]) : ∃ xs : List ByteArray, WR W v xs ∧ ∀ x ∈ xs, x.size ≤ 9223372036854775807 := by
  letI := inhB
  rcases rd_slice h Tryd.underlying27 with e | ⟨a, len, cap, e, hlc, _, hby, hx⟩
  · simp only [List.cons.injEq, and_true] at e
    subst e
    exact ⟨[], .inl ⟨rfl, none, 0, rfl⟩, fun x hx => by cases hx⟩
  · simp only [List.cons.injEq, and_true] at e
    subst e
    rw [bStr] at hby
    unfold reachBytes at hby
    obtain ⟨f, hf⟩ := Go.Deep.choose_lt (α := ByteArray) (n := len) (p := fun i q => W.cells? 0 (a.add (i * Tryd.prog.cellsOf 9)) (Tryd.prog.cellsOf 9) = some [.string q] ∧ q.size ≤ 140737488355328) (fun i hi => by
      obtain ⟨cs', h1, h2⟩ := hx i hi
      obtain ⟨q, rfl, hq⟩ := rd_string h2 Tryd.underlying9
      exact ⟨q, h1, hq⟩)
    rw [c_string] at hf
    have hln : ((List.range len).map f).length = len := by simp
    refine ⟨(List.range len).map f, ?_, fun x hx => ?_⟩
    · by_cases h0 : len = 0
      · subst h0
        exact .inl ⟨rfl, _, _, rfl⟩
      · obtain ⟨b, o, spot⟩ := a
        have hs := spot_of (hf 0 (by omega)).1 (by omega)
        dsimp only at hs
        subst hs
        refine .inr ⟨b, o, cap, by rw [hln], fun q => by rw [q] at hln; simp at hln; omega, by rw [hln]; omega, fun j x hj => ?_⟩
        have hi : j < len := by have := (List.getElem?_eq_some_iff.1 hj).1; rwa [hln] at this
        have hq : f j = x := by
          rw [List.getElem?_map, List.getElem?_range hi] at hj
          simpa using hj
        obtain ⟨_, hc⟩ := rd_cell (hf j hi).1
        rw [hq] at hc
        have c0 := hc 0 (by omega)
        simp only [Go.WideShapes.add_plain] at c0
        simpa using c0
    · obtain ⟨i, hi, rfl⟩ := List.mem_map.1 hx
      have := (hf i (List.mem_range.1 hi)).2
      omega
theorem one_string {W : World} {v : Value} (h : Rd Tryd.prog W 9 [v]) : v.oneCell' = true ∧ rbk v = none := by
  obtain ⟨s, e, _⟩ := rd_string h Tryd.underlying9
  simp only [List.cons.injEq, and_true] at e
  subst e; exact ⟨rfl, rfl⟩
theorem one_int {W : World} {v : Value} (h : Rd Tryd.prog W 3 [v]) : v.oneCell' = true ∧ rbk v = none := by
  obtain ⟨s, e, _⟩ := rd_int h Tryd.underlying3
  simp only [List.cons.injEq, and_true] at e
  subst e; exact ⟨rfl, rfl⟩
theorem one_int64 {W : World} {v : Value} (h : Rd Tryd.prog W 2 [v]) : v.oneCell' = true ∧ rbk v = none := by
  obtain ⟨s, e, _⟩ := rd_int h Tryd.underlying2
  simp only [List.cons.injEq, and_true] at e
  subst e; exact ⟨rfl, rfl⟩
theorem one_bool {W : World} {v : Value} (h : Rd Tryd.prog W 4 [v]) : v.oneCell' = true ∧ rbk v = none := by
  obtain ⟨s, e⟩ := rd_bool h Tryd.underlying4
  simp only [List.cons.injEq, and_true] at e
  subst e; exact ⟨rfl, rfl⟩
theorem one_strs {W : World} {v : Value} (h : Rd Tryd.prog W 27 [v]) : v.oneCell' = true := by
  obtain ⟨xs, h | ⟨b, o, c, rfl, _⟩, _⟩ := rd_strs h
  · obtain ⟨_, p, c, rfl⟩ := h; rfl
  · rfl
set_option maxRecDepth 100000 in
set_option maxHeartbeats 8000000 in
theorem rd_unit {W : World} {cs : List Value} (h : Rd Tryd.prog W 29 cs) : ∃ u, UW W cs.toArray u := by
  letI := inhB
  obtain ⟨hl, hx⟩ := rd_struct h Tryd.underlying29
  rw [cUn] at hl
  have f0 : Rd Tryd.prog W 9 [cg cs 0] := fld c_string (by omega) (hx 0 _ rfl)
  have f1 : Rd Tryd.prog W 3 [cg cs 1] := fld c_int (by omega) (hx 1 _ rfl)
  have f2 : Rd Tryd.prog W 3 [cg cs 2] := fld c_int (by omega) (hx 2 _ rfl)
  have f3 : Rd Tryd.prog W 27 [cg cs 3] := fld c_strs (by omega) (hx 3 _ rfl)
  have f4 : Rd Tryd.prog W 27 [cg cs 4] := fld c_strs (by omega) (hx 4 _ rfl)
  have f5 : Rd Tryd.prog W 27 [cg cs 5] := fld c_strs (by omega) (hx 5 _ rfl)
  have f6 : Rd Tryd.prog W 27 [cg cs 6] := fld c_strs (by omega) (hx 6 _ rfl)
  have f7 : Rd Tryd.prog W 27 [cg cs 7] := fld c_strs (by omega) (hx 7 _ rfl)
  have f8 : Rd Tryd.prog W 27 [cg cs 8] := fld c_strs (by omega) (hx 8 _ rfl)
  have f9 : Rd Tryd.prog W 27 [cg cs 9] := fld c_strs (by omega) (hx 9 _ rfl)
  have f10 : Rd Tryd.prog W 4 [cg cs 10] := fld c_bool (by omega) (hx 10 _ rfl)
  have f11 : Rd Tryd.prog W 3 [cg cs 11] := fld c_int (by omega) (hx 11 _ rfl)
  have f12 : Rd Tryd.prog W 3 [cg cs 12] := fld c_int (by omega) (hx 12 _ rfl)
  have f13 : Rd Tryd.prog W 3 [cg cs 13] := fld c_int (by omega) (hx 13 _ rfl)
  have f14 : Rd Tryd.prog W 27 [cg cs 14] := fld c_strs (by omega) (hx 14 _ rfl)
  have f15 : Rd Tryd.prog W 27 [cg cs 15] := fld c_strs (by omega) (hx 15 _ rfl)
  have f16 : Rd Tryd.prog W 27 [cg cs 16] := fld c_strs (by omega) (hx 16 _ rfl)
  have f17 : Rd Tryd.prog W 2 [cg cs 17] := fld c_int64 (by omega) (hx 17 _ rfl)
  have f18 : Rd Tryd.prog W 2 [cg cs 18] := fld c_int64 (by omega) (hx 18 _ rfl)
  have f19 : Rd Tryd.prog W 2 [cg cs 19] := fld c_int64 (by omega) (hx 19 _ rfl)
  have f20 : Rd Tryd.prog W 2 [cg cs 20] := fld c_int64 (by omega) (hx 20 _ rfl)
  have f21 : Rd Tryd.prog W 3 [cg cs 21] := fld c_int (by omega) (hx 21 _ rfl)
  have f22 : Rd Tryd.prog W 2 [cg cs 22] := fld c_int64 (by omega) (hx 22 _ rfl)
  have f23 : Rd Tryd.prog W 4 [cg cs 23] := fld c_bool (by omega) (hx 23 _ rfl)
  have f24 : Rd Tryd.prog W 9 [cg cs 24] := fld c_string (by omega) (hx 24 _ rfl)
  have f25 : Rd Tryd.prog W 9 [cg cs 25] := fld c_string (by omega) (hx 25 _ rfl)
  have f26 : Rd Tryd.prog W 2 [cg cs 26] := fld c_int64 (by omega) (hx 26 _ rfl)
  have f27 : Rd Tryd.prog W 2 [cg cs 27] := fld c_int64 (by omega) (hx 27 _ rfl)
  have f28 : Rd Tryd.prog W 27 [cg cs 28] := fld c_strs (by omega) (hx 28 _ rfl)
  have f29 : Rd Tryd.prog W 27 [cg cs 29] := fld c_strs (by omega) (hx 29 _ rfl)
  have f30 : Rd Tryd.prog W 27 [cg cs 30] := fld c_strs (by omega) (hx 30 _ rfl)
  have f31 : Rd Tryd.prog W 9 [cg cs 31] := fld c_string (by omega) (hx 31 _ rfl)
  have f32 : Rd Tryd.prog W 9 [cg cs 32] := fld c_string (by omega) (hx 32 _ rfl)
  have hg : ∀ p, p < 33 → cs.toArray[p]? = some (cg cs p) := fun p hp => by
    rw [List.getElem?_toArray, List.getElem?_eq_getElem (by omega)]
    simp [cg, List.getD_eq_getElem?_getD, hl, hp]
  have gn : ∀ p v, cs.toArray[p]? = some v → p < 33 := fun p v hp => by
    have := (Array.getElem?_eq_some_iff.1 hp).1
    simpa [hl] using this
  clear hx h
  obtain ⟨s0, e0, _⟩ := rd_string f0 Tryd.underlying9
  simp only [List.cons.injEq, and_true] at e0
  obtain ⟨s24, e24, _⟩ := rd_string f24 Tryd.underlying9
  simp only [List.cons.injEq, and_true] at e24
  obtain ⟨s25, e25, _⟩ := rd_string f25 Tryd.underlying9
  simp only [List.cons.injEq, and_true] at e25
  obtain ⟨s31, e31, _⟩ := rd_string f31 Tryd.underlying9
  simp only [List.cons.injEq, and_true] at e31
  obtain ⟨s32, e32, _⟩ := rd_string f32 Tryd.underlying9
  simp only [List.cons.injEq, and_true] at e32
  obtain ⟨kd, e1, _⟩ := rd_int f1 Tryd.underlying3
  simp only [List.cons.injEq, and_true] at e1
  obtain ⟨pl, e10⟩ := rd_bool f10 Tryd.underlying4
  simp only [List.cons.injEq, and_true] at e10
  obtain ⟨x0, w0, z0⟩ := rd_strs f3
  obtain ⟨x1, w1, z1⟩ := rd_strs f4
  obtain ⟨x2, w2, z2⟩ := rd_strs f5
  obtain ⟨x3, w3, z3⟩ := rd_strs f6
  obtain ⟨x4, w4, z4⟩ := rd_strs f7
  obtain ⟨x5, w5, z5⟩ := rd_strs f8
  obtain ⟨x6, w6, z6⟩ := rd_strs f9
  obtain ⟨x7, w7, z7⟩ := rd_strs f14
  obtain ⟨x8, w8, z8⟩ := rd_strs f15
  obtain ⟨x9, w9, z9⟩ := rd_strs f16
  obtain ⟨x10, w10, z10⟩ := rd_strs f28
  obtain ⟨x11, w11, z11⟩ := rd_strs f29
  obtain ⟨x12, w12, z12⟩ := rd_strs f30
  refine ⟨⟨s0, kd, s25, pl, fun i => match i with
    | 0 => x0
    | 1 => x1
    | 2 => x2
    | 3 => x3
    | 4 => x4
    | 5 => x5
    | 6 => x6
    | 7 => x7
    | 8 => x8
    | 9 => x9
    | 10 => x10
    | 11 => x11
    | 12 => x12
    | _ => [], fun p => cg cs p⟩, ⟨by simp [hl], fun p v hp => ?_, by rw [hg 0 (by omega), e0], by rw [hg 1 (by omega), e1], by rw [hg 10 (by omega), e10], by rw [hg 25 (by omega), e25], fun i p hp => ?_, fun p hp hn => ⟨hg p hp, ?_⟩, fun p hp => ?_, fun i x hx => ?_⟩⟩
  · have q := gn p v hp
    rw [hg p q] at hp
    injection hp with hp
    subst hp
    match p, q with
    | 0, _ => exact (one_string f0).1
    | 1, _ => exact (one_int f1).1
    | 2, _ => exact (one_int f2).1
    | 3, _ => exact one_strs f3
    | 4, _ => exact one_strs f4
    | 5, _ => exact one_strs f5
    | 6, _ => exact one_strs f6
    | 7, _ => exact one_strs f7
    | 8, _ => exact one_strs f8
    | 9, _ => exact one_strs f9
    | 10, _ => exact (one_bool f10).1
    | 11, _ => exact (one_int f11).1
    | 12, _ => exact (one_int f12).1
    | 13, _ => exact (one_int f13).1
    | 14, _ => exact one_strs f14
    | 15, _ => exact one_strs f15
    | 16, _ => exact one_strs f16
    | 17, _ => exact (one_int64 f17).1
    | 18, _ => exact (one_int64 f18).1
    | 19, _ => exact (one_int64 f19).1
    | 20, _ => exact (one_int64 f20).1
    | 21, _ => exact (one_int f21).1
    | 22, _ => exact (one_int64 f22).1
    | 23, _ => exact (one_bool f23).1
    | 24, _ => exact (one_string f24).1
    | 25, _ => exact (one_string f25).1
    | 26, _ => exact (one_int64 f26).1
    | 27, _ => exact (one_int64 f27).1
    | 28, _ => exact one_strs f28
    | 29, _ => exact one_strs f29
    | 30, _ => exact one_strs f30
    | 31, _ => exact (one_string f31).1
    | 32, _ => exact (one_string f32).1
    | p + 33, q => omega
  · match i, hp with
    | 0, hp => simp [posL] at hp; subst hp; exact ⟨_, hg 3 (by omega), w0⟩
    | 1, hp => simp [posL] at hp; subst hp; exact ⟨_, hg 4 (by omega), w1⟩
    | 2, hp => simp [posL] at hp; subst hp; exact ⟨_, hg 5 (by omega), w2⟩
    | 3, hp => simp [posL] at hp; subst hp; exact ⟨_, hg 6 (by omega), w3⟩
    | 4, hp => simp [posL] at hp; subst hp; exact ⟨_, hg 7 (by omega), w4⟩
    | 5, hp => simp [posL] at hp; subst hp; exact ⟨_, hg 8 (by omega), w5⟩
    | 6, hp => simp [posL] at hp; subst hp; exact ⟨_, hg 9 (by omega), w6⟩
    | 7, hp => simp [posL] at hp; subst hp; exact ⟨_, hg 14 (by omega), w7⟩
    | 8, hp => simp [posL] at hp; subst hp; exact ⟨_, hg 15 (by omega), w8⟩
    | 9, hp => simp [posL] at hp; subst hp; exact ⟨_, hg 16 (by omega), w9⟩
    | 10, hp => simp [posL] at hp; subst hp; exact ⟨_, hg 28 (by omega), w10⟩
    | 11, hp => simp [posL] at hp; subst hp; exact ⟨_, hg 29 (by omega), w11⟩
    | 12, hp => simp [posL] at hp; subst hp; exact ⟨_, hg 30 (by omega), w12⟩
    | i + 13, hp => simp [posL] at hp
  · match p, hp, hn with
    | 0, _, hn => exact (one_string f0).2
    | 1, _, hn => exact (one_int f1).2
    | 2, _, hn => exact (one_int f2).2
    | 3, _, hn => exact absurd (by decide) hn
    | 4, _, hn => exact absurd (by decide) hn
    | 5, _, hn => exact absurd (by decide) hn
    | 6, _, hn => exact absurd (by decide) hn
    | 7, _, hn => exact absurd (by decide) hn
    | 8, _, hn => exact absurd (by decide) hn
    | 9, _, hn => exact absurd (by decide) hn
    | 10, _, hn => exact (one_bool f10).2
    | 11, _, hn => exact (one_int f11).2
    | 12, _, hn => exact (one_int f12).2
    | 13, _, hn => exact (one_int f13).2
    | 14, _, hn => exact absurd (by decide) hn
    | 15, _, hn => exact absurd (by decide) hn
    | 16, _, hn => exact absurd (by decide) hn
    | 17, _, hn => exact (one_int64 f17).2
    | 18, _, hn => exact (one_int64 f18).2
    | 19, _, hn => exact (one_int64 f19).2
    | 20, _, hn => exact (one_int64 f20).2
    | 21, _, hn => exact (one_int f21).2
    | 22, _, hn => exact (one_int64 f22).2
    | 23, _, hn => exact (one_bool f23).2
    | 24, _, hn => exact (one_string f24).2
    | 25, _, hn => exact (one_string f25).2
    | 26, _, hn => exact (one_int64 f26).2
    | 27, _, hn => exact (one_int64 f27).2
    | 28, _, hn => exact absurd (by decide) hn
    | 29, _, hn => exact absurd (by decide) hn
    | 30, _, hn => exact absurd (by decide) hn
    | 31, _, hn => exact (one_string f31).2
    | 32, _, hn => exact (one_string f32).2
    | p + 33, q, _ => omega
  · rcases hp with rfl | rfl | rfl
    · exact ⟨_, (hg 24 (by omega)).trans (by rw [e24])⟩
    · exact ⟨_, (hg 31 (by omega)).trans (by rw [e31])⟩
    · exact ⟨_, (hg 32 (by omega)).trans (by rw [e32])⟩
  · match i, hx with
    | 0, hx => exact z0 x hx
    | 1, hx => exact z1 x hx
    | 2, hx => exact z2 x hx
    | 3, hx => exact z3 x hx
    | 4, hx => exact z4 x hx
    | 5, hx => exact z5 x hx
    | 6, hx => exact z6 x hx
    | 7, hx => exact z7 x hx
    | 8, hx => exact z8 x hx
    | 9, hx => exact z9 x hx
    | 10, hx => exact z10 x hx
    | 11, hx => exact z11 x hx
    | 12, hx => exact z12 x hx
    | i + 13, hx => cases hx
set_option maxRecDepth 100000 in
theorem rd_step {W : World} {cs : List Value} (h : Rd Tryd.prog W 31 cs) : ∃ x : Stp, cs[0]? = some (.bool x.ad) ∧ (∀ p v, x.vs[p]? = some v → cs[1 + p]? = some v) ∧ cs[34]? = some (.string x.nm) ∧ UW W x.vs x.u ∧ x.nm.size ≤ 9223372036854775807 := by
  obtain ⟨hl, hx⟩ := rd_struct h Tryd.underlying31
  rw [cSp] at hl
  have g : ∀ p, p < 35 → cs[p]? = some (cg cs p) := fun p hp => by
    rw [List.getElem?_eq_getElem (by omega)]
    simp [cg, List.getD_eq_getElem?_getD, hl, hp]
  have f0 : Rd Tryd.prog W 4 [cg cs 0] := fld c_bool (by omega) (hx 0 _ rfl)
  have f1 : Rd Tryd.prog W 29 ((cs.drop 1).take (Tryd.prog.cellsOf 29)) := hx 1 _ rfl
  have f2 : Rd Tryd.prog W 9 [cg cs 34] := fld c_string (by omega) (hx 2 _ rfl)
  obtain ⟨b, e0⟩ := rd_bool f0 Tryd.underlying4
  obtain ⟨n, e2, z⟩ := rd_string f2 Tryd.underlying9
  simp only [List.cons.injEq, and_true] at e0 e2
  obtain ⟨u, hu⟩ := rd_unit f1
  rw [cUn] at hu
  refine ⟨⟨b, _, u, n⟩, by rw [g 0 (by omega), e0], fun p v hp => ?_, by rw [g 34 (by omega), e2], hu, by show n.size ≤ _; omega⟩
  have hp' : (((cs.drop 1).take 33).toArray)[p]? = some v := hp
  rw [List.getElem?_toArray, List.getElem?_take] at hp'
  split at hp'
  · rwa [List.getElem?_drop] at hp'
  · cases hp'
abbrev inhSp : Inhabited Stp := ⟨⟨false, #[], ⟨⟨#[]⟩, 0, ⟨#[]⟩, false, fun _ => [], fun _ => .bool false⟩, ⟨#[]⟩⟩⟩
set_option maxRecDepth 100000 in
theorem rd_steps {W : World} {v : Value} (h : Rd Tryd.prog W 22 [v]) : ∃ l : List Stp, SpIs W v l := by
  letI := inhSp
  rcases rd_slice h Tryd.underlying22 with e | ⟨a, len, cap, e, hlc, _, hby, hx⟩
  · simp only [List.cons.injEq, and_true] at e
    subst e
    exact ⟨[], ⟨none, 0, rfl⟩, by simp, fun j x hj => by simp at hj, fun x hx => by cases hx⟩
  · simp only [List.cons.injEq, and_true] at e
    subst e
    have hB := bSp
    have hcap : cap ≤ cap * Tryd.prog.bytesOf 31 := Nat.le_mul_of_pos_right _ hB
    unfold reachBytes at hby
    obtain ⟨f, hf⟩ := Go.Deep.choose_lt (α := Stp) (n := len) (p := fun i q => ∃ cs, W.cells? 0 (a.add (i * Tryd.prog.cellsOf 31)) (Tryd.prog.cellsOf 31) = some cs ∧ cs[0]? = some (.bool q.ad) ∧ (∀ p v, q.vs[p]? = some v → cs[1 + p]? = some v) ∧ cs[34]? = some (.string q.nm) ∧ UW W q.vs q.u ∧ q.nm.size ≤ 9223372036854775807) (fun i hi => by
      obtain ⟨cs', h1, h2⟩ := hx i hi
      obtain ⟨q, hq⟩ := rd_step h2
      exact ⟨q, cs', h1, hq⟩)
    rw [cSp] at hf
    have hln : ((List.range len).map f).length = len := by simp
    have hmem : ∀ p ∈ (List.range len).map f, ∃ i, i < len ∧ f i = p := fun p hp => by
      obtain ⟨i, hi, e⟩ := List.mem_map.1 hp
      exact ⟨i, List.mem_range.1 hi, e⟩
    refine ⟨(List.range len).map f, ⟨some a, cap, by rw [hln]⟩, by rw [hln]; omega, fun j x hj => ?_, fun x hx => ?_⟩
    · have hi : j < len := by have := (List.getElem?_eq_some_iff.1 hj).1; rwa [hln] at this
      have hq : f j = x := by
        rw [List.getElem?_map, List.getElem?_range hi] at hj
        simpa using hj
      obtain ⟨b, o, spot⟩ := a
      obtain ⟨cs0, h0, _⟩ := hf 0 (by omega)
      have hs := spot_of h0 (by omega)
      dsimp only at hs
      subst hs
      obtain ⟨cs, h1, a1, a2, a3, hu, _⟩ := hf j hi
      rw [hq] at a1 a2 a3 hu
      obtain ⟨hcl, hc⟩ := rd_cell h1
      simp only [Go.WideShapes.add_plain] at hc
      refine ⟨b, o, cap, by rw [hln], ⟨?_, fun p v hp => ?_, ?_⟩⟩
      · have := hc 0 (by omega)
        rw [a1] at this; exact this
      · have hp33 : p < 33 := by have := (Array.getElem?_eq_some_iff.1 hp).1; have := hu.sz; omega
        have := hc (1 + p) (by omega)
        rw [a2 p v hp] at this
        rw [← this]
        congr 2
        omega
      · have := hc 34 (by omega)
        rw [a3] at this; exact this
    · obtain ⟨i, hi, rfl⟩ := hmem x hx
      obtain ⟨_, _, _, _, _, hu, hz⟩ := hf i hi
      exact ⟨hu, hz⟩
end Go.Proofs.YtcfclknfnadgcaaDoor
/- GraphAgrees, over steps that came in. -/
namespace Go.Proofs.YtcfclknfnadgcaaDoor
open Go.RowKit Go.Shelf Go.Lib
theorem UW.lt {w : World} {vs : Array Value} {u : Un} (h : UW w vs u) {b : Nat} (hb : ubk vs b) : b < w.heap.size := by
  obtain ⟨p, v, h1, h2⟩ := hb
  have hp : p < 33 := by have := (Array.getElem?_eq_some_iff.1 h1).1; have := h.sz; omega
  by_cases hm : p ∈ posL
  · obtain ⟨i, hi, e⟩ := List.getElem_of_mem hm
    obtain ⟨v', h3, h4⟩ := h.ls i p (by rw [← e]; exact List.getElem?_eq_getElem hi)
    rw [h1] at h3
    injection h3 with h3
    subst h3
    rcases h4 with ⟨_, q, c, rfl⟩ | ⟨b2, o, c, rfl, n1, _, hc⟩
    · cases q <;> simp [rbk] at h2
    · have hb2 : b2 = b := by
        unfold rbk at h2
        simp only [List.length_eq_zero_iff, n1, if_false] at h2
        injection h2
      subst hb2
      cases hx : u.ls i with
      | nil => exact absurd hx n1
      | cons x r => exact cell_lt (hc 0 x (by rw [hx]; rfl))
  · obtain ⟨h3, h4⟩ := h.os p hp hm
    rw [h1] at h3
    injection h3 with h3
    rw [h3, h4] at h2
    cases h2
theorem agrees_own (v : Value) (l : List Stp) (w : World) (hg : GlN w) (h : SpIs w v l) : Calls Tryd.prog 3 #[v] w fun e w' => e = .returned (.bool true) ∧ Below w.heap.size w w' :=
  agrees_walk v l w h hg fun x hx _ hk => (h.ok x hx).1.lt hk
end Go.Proofs.YtcfclknfnadgcaaDoor
