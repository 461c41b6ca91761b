import Derived.Test.YtcfclknfnadgcaaDoorBan
import Derived.Test.YtcfclknfnadgcaaDoorBaj
import Derived.Laws.StructEq
/- A law's own rows of a unit's edges. -/
namespace Go.Proofs.YtcfclknfnadgcaaDoor
open Go.RowKit Go.Shelf Go.Lib
attribute [local go_sem] Oper.semAt_some
set_option maxRecDepth 100000 in
set_option maxHeartbeats 2000000 in
theorem Edges_any (p : Nat) (x : ByteArray) (w : World) : Calls Tryd.prog 22 #[.pointer (some ⟨p, 0, none⟩), .string x] w fun e w' => e = .returned (.func (.func 34) #[] #[.pointer (some ⟨w.heap.size, 0, none⟩), .pointer (some ⟨w.heap.size + 1, 0, none⟩)]) ∧ w' = (w.alloc (.cells #[.pointer (some ⟨p, 0, none⟩)] 25)).alloc (.cells #[.string x] 9) := by
  go_enter Tryd.func22, Tryd.ntmps22
  go_wp2_with fail
  go_ret
  exact ⟨rfl, rfl⟩
set_option maxRecDepth 100000 in
set_option maxHeartbeats 2000000 in
theorem out_any (S : GS) (L : UL) (w : World) (x : ByteArray) (h : Gs w S L) (hc : S.c ≤ 400000) (hx : x.size ≤ 1000) (hb : ∀ ys : List Ed, ys.Nodup → (∀ e, e ∈ ys ↔ fw (kL L) x e ≠ 0) → ys.length ≤ 499) :
    Calls Tryd.prog 10 #[.pointer (some ⟨S.gb, 0, none⟩), .string x] w fun e V => ∃ v ys, e = .returned v ∧ Eg.SV V v ys ∧ ys.Nodup ∧ ys.Pairwise (fun a b => ¬ ltE b a) ∧ (∀ e, e ∈ ys ↔ fw (kL L) x e ≠ 0) ∧ Below w.heap.size w V ∧ (∀ k, nbk v = some k → w.heap.size ≤ k) := by
  obtain ⟨B, hB⟩ : ∃ B, w.heap.size = B := ⟨_, rfl⟩
  obtain ⟨W1, hW1⟩ : ∃ W1, w.alloc (.cells #[.slice none 0 0] 34) = W1 := ⟨_, rfl⟩
  obtain ⟨W2, hW2⟩ : ∃ W2, (W1.alloc (.cells #[.pointer (some ⟨S.gb, 0, none⟩)] 25)).alloc (.cells #[.string x] 9) = W2 := ⟨_, rfl⟩
  have b1 : Below w.heap.size w W1 := by rw [← hW1]; exact (Below.refl _ _).alloc (Nat.le_refl _) _
  have s1 : W1.heap.size = B + 1 := by rw [← hW1]; simp [hB]
  have b2 : Below W1.heap.size W1 W2 := by rw [← hW2]; exact ((Below.refl _ _).alloc (Nat.le_refl _) _).alloc (by simp) _
  have s2 : W2.heap.size = B + 3 := by rw [← hW2]; simp [s1]
  have cl1 : Cl B (.slice none 0 0) W1 := ⟨by rw [← hW1]; exact cell_at hB rfl, by rw [← hW1]; exact froz_new hB⟩
  have tk : Tk B (.slice none 0 0) W2 [] := ⟨cl1.mv (E := fun _ => False) (Mv.below b2) (fun q => q), .inl ⟨rfl, rfl⟩, fun q => by cases q⟩
  have c1 : W2.cell? ⟨B + 1, 0, none⟩ = some (.pointer (some ⟨S.gb, 0, none⟩)) := by rw [← hW2]; exact (Mv.alloc (fun _ => False) _ _).cell (fun q => q) (cell_at s1 rfl)
  have c2 : W2.cell? ⟨B + 1 + 1, 0, none⟩ = some (.string x) := by rw [← hW2]; exact cell_at (by simp [s1]) rfl
  have h2 : Gs W2 S L := (h.below b1).below b2
  have hE := Edges_any S.gb x W1
  rw [hW2, s1] at hE
  have hC := out_edges S L W2 x B (B + 1) (B + 1 + 1) h2 hc hx c1 c2 tk hb
  have fin : Hid (∀ V v' ys, Tk B v' V ys → Mv (fun k => k = B) W2 V → (∀ k, nbk v' = some k → W2.heap.size ≤ k) → Eg.SV V v' ys ∧ Below w.heap.size w V ∧ (∀ k, nbk v' = some k → w.heap.size ≤ k)) := by
    intro V v' ys t m fr
    refine ⟨t.sv, (((Mv.below b1).trans' (Mv.below (b2.mono (Nat.le_refl _)))).trans' m).toBelow (Nat.le_refl _) (fun k hk e => by omega), fun k hk => by have := fr k hk; omega⟩
  clear h h2 hb tk cl1 c1 c2 b1 b2 s2
  rw [hB] at fin
  go_enter Tryd.func10, Tryd.ntmps10
  rw [hB]
  go_wp2_with (rw [hW1])
  refine hE.mono ?_
  rintro e W ⟨rfl, rfl⟩
  go_wp2_with fail
  refine hC.mono ?_
  rintro e V ⟨rfl, v', ys, t, m, fr, h1, h2, h3⟩
  have f := hidP (fin.out V v' ys t m fr)
  have cv := t.cl.c
  clear t m fr fin hC hE
  go_wp2_with fail
  go_ret
  exact ⟨v', ys, rfl, f.out.1, h1, h2, h3, f.out.2.1, f.out.2.2⟩
set_option maxRecDepth 100000 in
set_option maxHeartbeats 2000000 in
theorem Into_any (p : Nat) (x : ByteArray) (w : World) : Calls Tryd.prog 24 #[.pointer (some ⟨p, 0, none⟩), .string x] w fun e w' => e = .returned (.func (.func 36) #[] #[.pointer (some ⟨w.heap.size, 0, none⟩), .pointer (some ⟨w.heap.size + 1, 0, none⟩)]) ∧ w' = (w.alloc (.cells #[.pointer (some ⟨p, 0, none⟩)] 25)).alloc (.cells #[.string x] 9) := by
  go_enter Tryd.func24, Tryd.ntmps24
  go_wp2_with fail
  go_ret
  exact ⟨rfl, rfl⟩
set_option maxRecDepth 100000 in
set_option maxHeartbeats 2000000 in
theorem into_any (S : GS) (L : UL) (w : World) (x : ByteArray) (h : Gs w S L) (hc : S.c ≤ 400000) (hx : x.size ≤ 1000) (hb : ∀ ys : List Ed, ys.Nodup → (∀ e, e ∈ ys ↔ bw (kL L) x e ≠ 0) → ys.length ≤ 499) :
    Calls Tryd.prog 12 #[.pointer (some ⟨S.gb, 0, none⟩), .string x] w fun e V => ∃ v ys, e = .returned v ∧ Eg.SV V v ys ∧ ys.Nodup ∧ ys.Pairwise (fun a b => ¬ ltE b a) ∧ (∀ e, e ∈ ys ↔ bw (kL L) x e ≠ 0) ∧ Below w.heap.size w V ∧ (∀ k, nbk v = some k → w.heap.size ≤ k) := by
  obtain ⟨B, hB⟩ : ∃ B, w.heap.size = B := ⟨_, rfl⟩
  obtain ⟨W1, hW1⟩ : ∃ W1, w.alloc (.cells #[.slice none 0 0] 34) = W1 := ⟨_, rfl⟩
  obtain ⟨W2, hW2⟩ : ∃ W2, (W1.alloc (.cells #[.pointer (some ⟨S.gb, 0, none⟩)] 25)).alloc (.cells #[.string x] 9) = W2 := ⟨_, rfl⟩
  have b1 : Below w.heap.size w W1 := by rw [← hW1]; exact (Below.refl _ _).alloc (Nat.le_refl _) _
  have s1 : W1.heap.size = B + 1 := by rw [← hW1]; simp [hB]
  have b2 : Below W1.heap.size W1 W2 := by rw [← hW2]; exact ((Below.refl _ _).alloc (Nat.le_refl _) _).alloc (by simp) _
  have s2 : W2.heap.size = B + 3 := by rw [← hW2]; simp [s1]
  have cl1 : Cl B (.slice none 0 0) W1 := ⟨by rw [← hW1]; exact cell_at hB rfl, by rw [← hW1]; exact froz_new hB⟩
  have tk : Tk B (.slice none 0 0) W2 [] := ⟨cl1.mv (E := fun _ => False) (Mv.below b2) (fun q => q), .inl ⟨rfl, rfl⟩, fun q => by cases q⟩
  have c1 : W2.cell? ⟨B + 1, 0, none⟩ = some (.pointer (some ⟨S.gb, 0, none⟩)) := by rw [← hW2]; exact (Mv.alloc (fun _ => False) _ _).cell (fun q => q) (cell_at s1 rfl)
  have c2 : W2.cell? ⟨B + 1 + 1, 0, none⟩ = some (.string x) := by rw [← hW2]; exact cell_at (by simp [s1]) rfl
  have h2 : Gs W2 S L := (h.below b1).below b2
  have hE := Into_any S.gb x W1
  rw [hW2, s1] at hE
  have hC := into_edges S L W2 x B (B + 1) (B + 1 + 1) h2 hc hx c1 c2 tk hb
  have fin : Hid (∀ V v' ys, Tk B v' V ys → Mv (fun k => k = B) W2 V → (∀ k, nbk v' = some k → W2.heap.size ≤ k) → Eg.SV V v' ys ∧ Below w.heap.size w V ∧ (∀ k, nbk v' = some k → w.heap.size ≤ k)) := by
    intro V v' ys t m fr
    refine ⟨t.sv, (((Mv.below b1).trans' (Mv.below (b2.mono (Nat.le_refl _)))).trans' m).toBelow (Nat.le_refl _) (fun k hk e => by omega), fun k hk => by have := fr k hk; omega⟩
  clear h h2 hb tk cl1 c1 c2 b1 b2 s2
  rw [hB] at fin
  go_enter Tryd.func12, Tryd.ntmps12
  rw [hB]
  go_wp2_with (rw [hW1])
  refine hE.mono ?_
  rintro e W ⟨rfl, rfl⟩
  go_wp2_with fail
  refine hC.mono ?_
  rintro e V ⟨rfl, v', ys, t, m, fr, h1, h2, h3⟩
  have f := hidP (fin.out V v' ys t m fr)
  have cv := t.cl.c
  clear t m fr fin hC hE
  go_wp2_with fail
  go_ret
  exact ⟨v', ys, rfl, f.out.1, h1, h2, h3, f.out.2.1, f.out.2.2⟩
end Go.Proofs.YtcfclknfnadgcaaDoor
/- What a graph's edges answer, for GraphAgrees. -/
namespace Go.Proofs.YtcfclknfnadgcaaDoor
open Go.RowKit Go.Shelf Go.Lib
/-- A row of edges that K tells of. -/
def RwE (K : Ed → Int) (W : World) (e : Ending) (V : World) : Prop := ∃ v ys, e = .returned v ∧ Eg.SV V v ys ∧ ys.Nodup ∧ (∀ e, e ∈ ys ↔ K e ≠ 0) ∧ Below W.heap.size W V ∧ ys.length ≤ 499
theorem kL_nn (L : UL) (e : Ed) : 0 ≤ kL L e := by unfold kL; omega
theorem ga_out {B gb n : Nat} {w0 W : World} {S : GS} {L : UL} (h : Ga B gb w0 W S L n) (hn : n ≤ 400000) (x : ByteArray) (hx : x.size ≤ 1000) : Calls Tryd.prog 10 #[.pointer (some ⟨gb, 0, none⟩), .string x] W (RwE (fw (kL L) x) W) := by
  have hb := fun ys => out_le (by have := h.len; omega) h.g.nd (fun p hp => (h.fw p hp).few) x ys
  have := out_any S L W x h.g (by have := h.c; omega) hx hb
  rw [h.hgb] at this
  refine this.mono ?_
  rintro e V ⟨v, ys, h1, h2, h3, _, h4, h5, _⟩
  exact ⟨v, ys, h1, h2, h3, h4, h5, hb ys h3 h4⟩
theorem ga_into {B gb n : Nat} {w0 W : World} {S : GS} {L : UL} (h : Ga B gb w0 W S L n) (hn : n ≤ 400000) (x : ByteArray) (hx : x.size ≤ 1000) : Calls Tryd.prog 12 #[.pointer (some ⟨gb, 0, none⟩), .string x] W (RwE (bw (kL L) x) W) := by
  have hb := fun ys => into_le (by have := h.len; omega) h.g.nd (fun p hp => (h.fw p hp).few) x ys
  have := into_any S L W x h.g (by have := h.c; omega) hx hb
  rw [h.hgb] at this
  refine this.mono ?_
  rintro e V ⟨v, ys, h1, h2, h3, _, h4, h5, _⟩
  exact ⟨v, ys, h1, h2, h3, h4, h5, hb ys h3 h4⟩
theorem ga_ok {B gb n : Nat} {w0 W : World} {S : GS} {L : UL} (h : Ga B gb w0 W S L n) {y : Ed} (hy : kL L y ≠ 0) : okE y := h.g.ed.e1.ok y.2.1 y (by rw [fw_at]; exact hy)
theorem ga_has {B gb n : Nat} {w0 W : World} {S : GS} {L : UL} (h : Ga B gb w0 W S L n) {y : Ed} (hy : kL L y ≠ 0) : Calls Tryd.prog 11 #[.pointer (some ⟨gb, 0, none⟩), .int .i64 y.1, .string y.2.1, .string y.2.2] W fun e w' => e = .returned (.bool true) ∧ w' = W := by
  have := has_any S L W h.g y.1 y.2.1 y.2.2 (ga_ok h hy)
  have e : decide (0 < kL L (y.1, y.2.1, y.2.2)) = true := decide_eq_true (by have := kL_nn L y; have : kL L (y.1, y.2.1, y.2.2) = kL L y := rfl; omega)
  rw [e, h.hgb] at this
  exact this
theorem kL_ne {L : UL} {y : Ed} (hy : kL L y ≠ 0) : y.2.1 ≠ y.2.2 := by
  obtain ⟨p, _, ht⟩ := kL_mem hy
  obtain ⟨r, _, o, _, hok, rfl⟩ := tol_mem ht
  unfold okO at hok
  rw [Bool.and_eq_true] at hok
  have ne : ¬ o = p.2.nm := by simpa using hok.1
  unfold edO
  cases r.2.1
  · exact fun q => ne q.symm
  · exact fun q => ne q
theorem fw_ne {K : Ed → Int} {x : ByteArray} {y : Ed} (h : fw K x y ≠ 0) : y.2.1 = x ∧ K y ≠ 0 := by
  unfold fw at h
  by_cases e : y.2.1 = x
  · rw [if_pos e] at h; exact ⟨e, h⟩
  · rw [if_neg e] at h; exact absurd rfl h
theorem bw_ne {K : Ed → Int} {x : ByteArray} {y : Ed} (h : bw K x y ≠ 0) : y.2.2 = x ∧ K y ≠ 0 := by
  unfold bw at h
  by_cases e : y.2.2 = x
  · rw [if_pos e] at h; exact ⟨e, h⟩
  · rw [if_neg e] at h; exact absurd rfl h
/-- Where the edges of a row lie. -/
theorem Eg.SV.cells {W : World} {v : Value} {ys : List Ed} (h : Eg.SV W v ys) {j : Nat} {y : Ed} (hy : ys[j]? = some y) : ∃ g o c, v = .slice (some ⟨g, o, none⟩) ys.length c ∧ j < c ∧ W.cell? ⟨g, o + j * 3, none⟩ = some (.int .i64 y.1) ∧ W.cell? ⟨g, o + j * 3 + 1, none⟩ = some (.string y.2.1) ∧ W.cell? ⟨g, o + j * 3 + 2, none⟩ = some (.string y.2.2) := by
  rcases h with ⟨_, rfl⟩ | ⟨g, o, c, rfl, rs⟩
  · cases hy
  · obtain ⟨c0, c1, c2⟩ := rs.ra.at hy
    have := (List.getElem?_eq_some_iff.1 hy).1
    exact ⟨g, o, c, rfl, by have := rs.le; omega, c0, c1, c2⟩
/-- Two edges, compared. -/
theorem eqE_run (a1 b1 : Int) (a2 a3 b2 b3 : ByteArray) (w : World) : (binOp .eql 37 (.agg #[.int .i64 a1, .string a2, .string a3]) (.agg #[.int .i64 b1, .string b2, .string b3])).run Tryd.prog w = .ok (.bool (a1 == b1 && a2.toList == b2.toList && a3.toList == b3.toList)) w := by
  have u3 := Tryd.underlying3
  have u9 := Tryd.underlying9
  have a3' := Tryd.isAgg3
  have z3 := Tryd.sizeOf3
  have a9 := Tryd.isAgg9
  have z9 := Tryd.sizeOf9
  have hS : Tryd.prog.underlying 37 = some (.struct (Tryd.prog.fieldsOf 37)) := by kernel_rfl
  have hp : Tryd.prog.stoodInHeld 37 = false := by kernel_rfl
  rw [run_eql_struct, show (10000 : Nat) = 9999 + 1 from rfl, run_equalIn_agg w 9999 37 _ _ hS hp]
  simp only [Program.fieldsOf, Tryd.underlying37]
  go_simp
  cases h1 : (a1 == b1) <;> cases h2 : (a2.toList == b2.toList) <;> cases h3 : (a3.toList == b3.toList) <;> simp_all
theorem eqE_iff {a1 b1 : Int} {a2 a3 b2 b3 : ByteArray} : (a1 == b1 && a2.toList == b2.toList && a3.toList == b3.toList) = true ↔ (a1, a2, a3) = (b1, b2, b3) := by
  rw [Bool.and_eq_true, Bool.and_eq_true, beq_iff_eq, beq_iff_eq, beq_iff_eq]
  constructor
  · rintro ⟨⟨rfl, h2⟩, h3⟩
    rw [ba_ext h2, ba_ext h3]
  · intro h
    injection h with h1 h
    injection h with h2 h3
    exact ⟨⟨h1, by rw [h2]⟩, by rw [h3]⟩
end Go.Proofs.YtcfclknfnadgcaaDoor
