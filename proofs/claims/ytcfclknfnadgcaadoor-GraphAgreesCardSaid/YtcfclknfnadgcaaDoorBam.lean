import Derived.Test.YtcfclknfnadgcaaDoorBac
import Derived.Test.YtcfclknfnadgcaaDoorBaj
import Derived.Test.YtcfclknfnadgcaaDoorBak
import Derived.Test.YtcfclknfnadgcaaDoorBal
import Derived.Test.YtcfclknfnadgcaaDoorBaf
/- slices.Values of edges, as a row. -/
namespace Go.Proofs.YtcfclknfnadgcaaDoor.Eg
open Go.RowKit Go.Shelf Go.Lib
attribute [local go_sem] Oper.semAt_some
abbrev bxE (x : Ed) : Obj := .cells #[.int .i64 x.1, .string x.2.1, .string x.2.2] 37
set_option maxRecDepth 100000 in
set_option maxHeartbeats 4000000 in
theorem values_row (l : List Ed) (b : Nat) (v : Value) (E : Nat → Prop) (W : World) (cv : W.cell? ⟨b, 0, none⟩ = some v) (eb : ¬ E b) (hs : SV W v l) (hE : ∀ k, nbk v = some k → ¬ E k) (hl : l.length ≤ 1000000000) :
    Row Tryd.prog 57 #[.pointer (some ⟨b, 0, none⟩)] enE l E W := by
  intro u J Jx E1 V m g hJ hJx hY h0
  have d1 := m.cell (a := ⟨b, 0, none⟩) eb cv
  have f1 : ¬ E1 b := g.free (cell_lt cv) eb
  have sv := hs.mv m hE
  have hJk : Hid (Ter V.heap.size J) := hJ
  have hcel : Hid (∀ (j : Nat) (x : Ed), l[j]? = some x → ∃ gb o c, v = .slice (some ⟨gb, o, none⟩) l.length c ∧ ∀ wr, Mv E1 V wr → wr.cell? ⟨gb, o + j * 3, none⟩ = some (.int .i64 x.1) ∧ wr.cell? ⟨gb, o + j * 3 + 1, none⟩ = some (.string x.2.1) ∧ wr.cell? ⟨gb, o + j * 3 + 2, none⟩ = some (.string x.2.2)) := by
    intro j x hx
    rcases sv with ⟨_, rfl⟩ | ⟨gb, o, c, rfl, rs⟩
    · cases hx
    · refine ⟨gb, o, c, rfl, fun wr m2 => ?_⟩
      have n1 : ¬ E1 gb := g.free (hs.lt rfl) (hE gb rfl)
      obtain ⟨c0, c1, c2⟩ := rs.ra.at hx
      exact ⟨m2.cell (a := ⟨gb, _, none⟩) n1 c0, m2.cell (a := ⟨gb, _, none⟩) n1 c1, m2.cell (a := ⟨gb, _, none⟩) n1 c2⟩
  obtain ⟨p, cap, rfl⟩ := sv.shape
  obtain ⟨n, hn⟩ : ∃ n, l.length = n := ⟨_, rfl⟩
  rw [hn] at d1 hl hcel
  have hN : Hid (l.length = n) := hn
  clear hn cv hE hs sv hJ hJx
  refine (callsIn_wide (n := 5)).1 ?_
  refine callsIn_of_wp Tryd.func57 rfl trivial ?_ rfl
  simp only [Tryd.ntmps57, List.size_toArray, List.length_cons, List.length_nil, Nat.reduceAdd, Nat.reduceSub, Array.replicate_succ, Array.replicate_zero, List.push_toArray, List.append_toArray, List.nil_append, List.cons_append]
  gi_wp2_with fail
  gi_loopw [7] (fun i wr => ∃ (k : Nat) (E2 : Nat → Prop), k ≤ n ∧ i = .int .i64 k ∧ Hid (J (l.drop k) E2 wr) ∧ Hid (Mv E1 V wr) ∧ Hid (Gr E1 V E2)) (fun i _ => n - (intOf i).toNat)
  case atStart => exact ⟨0, E1, by omega, rfl, h0, Mv.refl _ _, Gr.refl _ _⟩
  case round =>
    obtain ⟨k, E2, k0, rfl, hj, hm, hg⟩ := hrel
    have d3 := hm.out.cell (a := ⟨b, 0, none⟩) f1 d1
    by_cases hlt : k < n
    · have hltI : (k : Int) < (n : Int) := by omega
      obtain ⟨x, hx⟩ : ∃ x, l[k]? = some x := ⟨_, List.getElem?_eq_getElem (by rw [hN.out]; omega)⟩
      have hdr : l.drop k = x :: l.drop (k + 1) := by
        obtain ⟨h1, h2⟩ := List.getElem?_eq_some_iff.1 hx
        rw [List.drop_eq_getElem_cons h1, h2]
      rw [hdr] at hj
      obtain ⟨gb, o, c, ep, hcw⟩ := hcel.out k x hx
      obtain ⟨rfl, rfl⟩ : p = some ⟨gb, o, none⟩ ∧ cap = c := by cases ep; exact ⟨rfl, rfl⟩
      obtain ⟨p0, p1, p2⟩ := hcw wr hm.out
      have hj1 : J (x :: l.drop (k + 1)) E2 (wr.alloc (bxE x)) := hJk.out.keep _ _ _ _ hj.out (Mv.alloc _ _ _)
      have hm1 : Hid (Mv E1 V (wr.alloc (bxE x))) := hm.out.trans' (Mv.alloc _ _ _)
      obtain ⟨fn, tmps, assign, body, hy, hR⟩ := hY x _ E2 _ hj1
      dsimp only [enE] at hy
      have hRH := hidP hR
      have hmS : Hid (V.heap.size ≤ (wr.alloc (bxE x)).heap.size) := hm1.out.size
      clear hx hcw hj hdr ep hj1 hm hR d3
      gi_wp2_with fail
      refine (wide_round' hRH.out).mono ?_
      rintro e W3 ⟨m3, (⟨rfl, E3, g3, hj3⟩ | ⟨rfl, E3, g3, hj3⟩)⟩
      · have fin : Hid (Hid (J (l.drop (k + 1)) E3 W3) ∧ Hid (Mv E1 V W3) ∧ Hid (Gr E1 V E3)) := ⟨hj3, hm1.out.trans hg.out m3, hg.out.trans hmS.out g3⟩
        clear m3 g3 hj3 hy
        gi_wp2_with fail
        exact ⟨⟨k + 1, E3, by omega, by push_cast; rfl, fin.out⟩, by simp [intOf]; omega⟩
      · have fin : Hid (Went J Jx E1 V (.returned (.tuple #[])) W3) := ⟨⟨_, rfl⟩, hm1.out.trans hg.out m3, .inr ⟨E3, hg.out.trans hmS.out g3, hj3⟩⟩
        clear m3 g3 hj3 hy
        gi_wp2_with fail
        refine bodyPost_ret (results_none rfl _ _ _) rfl ?_
        exact fin.out
    · obtain rfl : k = n := by omega
      have hnil : l.drop k = [] := List.drop_eq_nil_of_le (by rw [hN.out]; omega)
      rw [hnil] at hj
      gi_wp2_with fail
      go_end0
      exact ⟨⟨_, rfl⟩, hm.out, .inl ⟨E2, hg.out, hj.out⟩⟩
end Go.Proofs.YtcfclknfnadgcaaDoor.Eg
/- The edges of a unit, in order. -/
namespace Go.Proofs.YtcfclknfnadgcaaDoor
open Go.RowKit Go.Shelf Go.Lib
attribute [local go_sem] Oper.semAt_some
set_option maxRecDepth 100000 in
set_option maxHeartbeats 1000000 in
theorem valuesE_any (p : Option Addr) (n c : Nat) (w : World) : Calls Tryd.prog 46 #[.slice p n c] w fun e w' => e = .returned (.func (.func 57) #[] #[.pointer (some ⟨w.heap.size, 0, none⟩)]) ∧ w' = w.alloc (.cells #[.slice p n c] 34) := by
  go_enter Tryd.func46, Tryd.ntmps46
  go_wp2_with fail
  go_ret
  exact ⟨rfl, rfl⟩
set_option maxRecDepth 100000 in
set_option maxHeartbeats 1000000 in
theorem keysE_any (v : Option Nat) (w : World) : Calls Tryd.prog 48 #[.map v] w fun e w' => e = .returned (.func (.func 60) #[] #[.pointer (some ⟨w.heap.size, 0, none⟩)]) ∧ w' = w.alloc (.cells #[.map v] 62) := by
  go_enter Tryd.func48, Tryd.ntmps48
  go_wp2_with fail
  go_ret
  exact ⟨rfl, rfl⟩
/-- The edges at x, in order, as a row that is to come. -/
structure Sd (N : Nat) (w : World) (e : Ending) (V : World) (C : Ed → Int) (ys : List Ed) (sb : Nat) (vv : Value) : Prop where
  ret : e = .returned (.func (.func 57) #[] #[.pointer (some ⟨sb, 0, none⟩)])
  c : V.cell? ⟨sb, 0, none⟩ = some vv
  sv : Eg.SV V vv ys
  nd : ys.Nodup
  so : ys.Pairwise fun a b => ¬ ltE b a
  mem : ∀ e, e ∈ ys ↔ C e ≠ 0
  be : Below w.heap.size w V
  sb : w.heap.size ≤ sb
  fr : ∀ k, nbk vv = some k → w.heap.size ≤ k
  len : ys.length ≤ N
theorem mapNodup {T : List EK} (h : T.Nodup) : (T.map (·.1)).Nodup := by
  rw [List.Nodup, List.pairwise_map]
  exact h.imp fun q e => q (Subtype.ext e)
set_option maxRecDepth 100000 in
set_option maxHeartbeats 2000000 in
theorem sorted_any {w : World} {eb : Nat} {fb : ByteArray → Option Nat} {C : ByteArray → Ed → Int} {c : Nat} (h : En w eb fb C c) (hc : c ≤ 400000) (x : ByteArray) (hx : x.size ≤ 1000) :
    Calls Tryd.prog 35 #[.map (some eb), .string x] w fun e V => ∃ ys sb sv, Sd c w e V (C x) ys sb sv := by
  obtain ⟨m, hm, hA⟩ := h.all
  have hlk := hA.look1 lawS undEn (zeroMe w) (a := x) (keyS hx)
  obtain ⟨mv, hmv⟩ : ∃ mv, (Option.map (fun b => Value.map (some b)) (fb x)).getD (.map none) = mv := ⟨_, rfl⟩
  rw [hmv] at hlk
  obtain ⟨T, hT, hmem, hlen, tm⟩ : ∃ T : List EK, T.Nodup ∧ (∀ e : EK, e ∈ T ↔ C x e.1 ≠ 0) ∧ T.length ≤ c ∧ MV w mv T (C x) := by
    cases hf : fb x with
    | none =>
      rw [hf] at hmv
      simp only [Option.map_none, Option.getD_none] at hmv
      exact ⟨[], .nil, fun e => ⟨fun z => (by cases z), fun z => absurd (h.non x hf e.1) z⟩, Nat.zero_le _, .inl ⟨hmv.symm, rfl⟩⟩
    | some b =>
      rw [hf] at hmv
      simp only [Option.map_some, Option.getD_some] at hmv
      obtain ⟨n, hn, _, hM⟩ := h.sub x b hf
      obtain ⟨T, h1, h2, h3, h4⟩ := hM.edges
      exact ⟨T, h1, h2, by omega, hmv ▸ h4⟩
  have hmem2 : ∀ e, e ∈ T.map (·.1) ↔ C x e ≠ 0 := fun e => by
    rw [List.mem_map]
    constructor
    · rintro ⟨d, hd, rfl⟩; exact (hmem d).1 hd
    · intro z
      exact ⟨⟨e, h.ok x e z⟩, (hmem _).2 z, rfl⟩
  obtain ⟨w1, hw1⟩ : ∃ w1, w.alloc (.cells #[mv] 62) = w1 := ⟨_, rfl⟩
  obtain ⟨B, hB⟩ : ∃ B, w.heap.size = B := ⟨_, rfl⟩
  have c1 : w1.cell? ⟨B, 0, none⟩ = some mv := by rw [← hw1]; exact cell_at hB rfl
  have b1 : Below w.heap.size w w1 := by rw [← hw1]; exact (Below.refl _ _).alloc (Nat.le_refl _) _
  have s1 : w1.heap.size = B + 1 := by rw [← hw1]; simp [hB]
  have tm1 : MV w1 mv T (C x) := tm.mv (E := fun _ => False) (Mv.below b1) (fun _ _ q => q)
  obtain ⟨mo, rfl⟩ : ∃ mo, mv = .map mo := by rcases tm with ⟨e, _⟩ | ⟨b, e, _⟩ <;> exact ⟨_, e⟩
  have hK := keysE_any mo w
  rw [hw1] at hK
  have hSF := Eg.sortedf_any (T.map (·.1)) 60 #[.pointer (some ⟨B, 0, none⟩)] (enters_of Tryd.func60 (by kernel_rfl) rfl) w1 (fun W0 b0 => by
    refine RowP.map (enc := Eg.enE) (f := Subtype.val) ?_
    exact keys_row (C := C x) (fun k => k = w1.heap.size) W0 ((Mv.below (E := fun _ => False) b0).cell (fun q => q) c1) (tm1.mv (E := fun _ => False) (Mv.below b0) (fun _ _ q => q)) hT (by omega) (fun k hk e => by have := tm1.lt hk; omega)) (by rw [List.length_map]; omega)
  have fin : Hid (∀ v (ys : List Ed) V, ys.Perm (T.map (·.1)) → ys.Pairwise (fun a b => ¬ ltE b a) → Eg.SV V v ys → Below w1.heap.size w1 V → (∀ k, nbk v = some k → w1.heap.size ≤ k) → Sd c w (.returned (.func (.func 57) #[] #[.pointer (some ⟨V.heap.size, 0, none⟩)])) (V.alloc (.cells #[v] 34)) (C x) ys V.heap.size v) := by
    intro v ys V hp hso sv bV hk
    have hs := bV.size
    exact ⟨rfl, cell_at rfl rfl, sv.mv (F := fun _ => False) (Mv.alloc _ _ _) (fun _ _ q => q), hp.nodup_iff.2 (mapNodup hT), hso, fun e => by rw [hp.mem_iff]; exact hmem2 e, ((b1.trans (bV.mono (by omega))).alloc (by omega) _), by omega, fun k hk' => by have := hk k hk'; omega, by rw [hp.length_eq, List.length_map]; exact hlen⟩
  clear hA hmem hmem2 hlen hT tm tm1 c1 b1 s1 h hmv
  rw [hB] at hK
  go_enter Tryd.func35, Tryd.ntmps35
  go_wp2_with fail
  refine hK.mono ?_
  rintro e W1 ⟨rfl, rfl⟩
  go_wp2_with fail
  refine hSF.mono ?_
  rintro e V ⟨v, ys, rfl, h1, h2, h3, h4, h5⟩
  obtain ⟨pv, cv, rfl⟩ := h3.shape
  obtain ⟨ny, hny⟩ : ∃ ny, ys.length = ny := ⟨_, rfl⟩
  rw [hny] at h3 h5
  have hV := valuesE_any pv ny cv V
  have hh := hidP (fin.out _ ys V h1 h2 h3 h4 h5)
  clear h1 h2 h3 h4 h5 fin hSF
  go_wp2_with fail
  refine hV.mono ?_
  rintro e V2 ⟨rfl, rfl⟩
  go_wp2_with fail
  go_ret
  exact ⟨ys, _, _, hh.out⟩
end Go.Proofs.YtcfclknfnadgcaaDoor
/- A law's own row of a unit's edges. -/
namespace Go.Proofs.YtcfclknfnadgcaaDoor
open Go.RowKit Go.Shelf Go.Lib
attribute [local go_sem] Oper.semAt_some
/-- The taker's row: v in cell A holds l. -/
structure Tk (A : Nat) (v : Value) (W : World) (l : List Ed) : Prop where
  cl : Cl A v W
  sv : Eg.SV W v l
  ne : nbk v ≠ some A
set_option maxRecDepth 100000 in
set_option maxHeartbeats 4000000 in
theorem out1_any (x : Ed) (l : List Ed) (v : Value) (A : Nat) (w : World) (cl : Cl A v w) (sv : Eg.SV w v l) (nA : nbk v ≠ some A) (hl : l.length ≤ 498) :
    Calls Tryd.prog 23 #[.agg #[.int .i64 x.1, .string x.2.1, .string x.2.2], .pointer (some ⟨A, 0, none⟩)] w fun e V => e = .returned (.bool true) ∧ ∃ v', Tk A v' V (l ++ [x]) ∧ Mv (fun k => k = A ∨ nbk v = some k) w V ∧ (nbk v' = nbk v ∨ ∃ k, nbk v' = some k ∧ w.heap.size ≤ k) := by
  obtain ⟨B, hB⟩ : ∃ B, w.heap.size = B := ⟨_, rfl⟩
  obtain ⟨W0, hW0⟩ : ∃ W0, w.alloc (.cells #[.int .i64 x.1, .string x.2.1, .string x.2.2] 37) = W0 := ⟨_, rfl⟩
  have b0 : Below w.heap.size w W0 := by rw [← hW0]; exact (Below.refl _ _).alloc (Nat.le_refl _) _
  have s0 : W0.heap.size = B + 1 := by rw [← hW0]; simp [hB]
  have cl0 : Cl A v W0 := cl.mv (E := fun _ => False) (Mv.below b0) (fun q => q)
  have sv0 : Eg.SV W0 v l := sv.mv (F := fun _ => False) (Mv.below b0) (fun _ _ q => q)
  obtain ⟨v', W2, hrun, sv2, m2, at2⟩ := sv0.push x (by omega) s0
  obtain ⟨W1, hW1⟩ : ∃ W1, W0.alloc (.cells #[.int .i64 x.1, .string x.2.1, .string x.2.2] 37) = W1 := ⟨_, rfl⟩
  rw [hW1] at hrun
  have cl2 : Cl A v W2 := cl0.mv m2 nA
  have cl1 : Cl A v W1 := by rw [← hW1]; exact cl0.mv (E := fun _ => False) (Mv.alloc _ _ _) (fun q => q)
  obtain ⟨W3, hW3⟩ : ∃ W3, W2.setCell ⟨A, 0, none⟩ v' = W3 := ⟨_, rfl⟩
  have cl3 : Cl A v' W3 := by rw [← hW3]; exact cl2.set v'
  have nA' : nbk v' ≠ some A := fun q => by
    rcases at2 with z | ⟨k, z, hk⟩
    · exact nA (z ▸ q)
    · rw [q] at z; injection z with z; have := cl.lt; omega
  have mS : Mv (fun k => k = A) W2 W3 := by rw [← hW3]; exact Mv.set1 (E := fun k => k = A) rfl _
  have sv3 : Eg.SV W3 v' (l ++ [x]) := sv2.mv mS (fun k hk e => nA' (e ▸ hk))
  have fin : Hid (∃ v', Tk A v' W3 (l ++ [x]) ∧ Mv (fun k => k = A ∨ nbk v = some k) w W3 ∧ (nbk v' = nbk v ∨ ∃ k, nbk v' = some k ∧ w.heap.size ≤ k)) :=
    ⟨v', ⟨cl3, sv3, nA'⟩, ((Mv.below b0).trans' (m2.mono fun k _ q => .inr q)).trans' (mS.mono fun k _ q => .inl q), at2.imp id fun ⟨k, z, hk⟩ => ⟨k, z, by omega⟩⟩
  have c0 := cl0.c
  have c2 := cl2.c
  have c3 := cl3.c
  have f2 := cl2.f
  have bx0 : W0.cell? ⟨B, 0, none⟩ = some (.int .i64 x.1) := by rw [← hW0]; exact cell_at hB rfl
  have bx1 : W0.cell? ⟨B, 1, none⟩ = some (.string x.2.1) := by rw [← hW0]; exact cell_at hB rfl
  have bx2 : W0.cell? ⟨B, 2, none⟩ = some (.string x.2.2) := by rw [← hW0]; exact cell_at hB rfl
  obtain ⟨p3, c3', rfl⟩ := sv3.shape
  obtain ⟨n3, hn3⟩ : ∃ n3, (l ++ [x]).length = n3 := ⟨_, rfl⟩
  have hlt : ((n3 : Nat) : Int) < 500 := by rw [← hn3, List.length_append]; simp; omega
  rw [hn3] at c3 hrun hW3
  clear cl0 sv0 sv2 m2 at2 cl1 cl2 cl3 nA' mS sv3 b0 cl sv nA hn3
  rw [hB] at fin
  go_enter Tryd.func23, Tryd.ntmps23
  rw [hB]
  go_wp2_with (first | rw [hW0] | rw [s0] | rw [hW1] | refine wpList_append_run rfl _ _ _ rfl _ _ _ _ rfl rfl hrun ?_ | rw [hW3])
  go_ret
  exact ⟨rfl, fin.out⟩
set_option maxRecDepth 100000 in
set_option maxHeartbeats 4000000 in
theorem into1_any (x : Ed) (l : List Ed) (v : Value) (A : Nat) (w : World) (cl : Cl A v w) (sv : Eg.SV w v l) (nA : nbk v ≠ some A) (hl : l.length ≤ 498) :
    Calls Tryd.prog 25 #[.agg #[.int .i64 x.1, .string x.2.1, .string x.2.2], .pointer (some ⟨A, 0, none⟩)] w fun e V => e = .returned (.bool true) ∧ ∃ v', Tk A v' V (l ++ [x]) ∧ Mv (fun k => k = A ∨ nbk v = some k) w V ∧ (nbk v' = nbk v ∨ ∃ k, nbk v' = some k ∧ w.heap.size ≤ k) := by
  obtain ⟨B, hB⟩ : ∃ B, w.heap.size = B := ⟨_, rfl⟩
  obtain ⟨W0, hW0⟩ : ∃ W0, w.alloc (.cells #[.int .i64 x.1, .string x.2.1, .string x.2.2] 37) = W0 := ⟨_, rfl⟩
  have b0 : Below w.heap.size w W0 := by rw [← hW0]; exact (Below.refl _ _).alloc (Nat.le_refl _) _
  have s0 : W0.heap.size = B + 1 := by rw [← hW0]; simp [hB]
  have cl0 : Cl A v W0 := cl.mv (E := fun _ => False) (Mv.below b0) (fun q => q)
  have sv0 : Eg.SV W0 v l := sv.mv (F := fun _ => False) (Mv.below b0) (fun _ _ q => q)
  obtain ⟨v', W2, hrun, sv2, m2, at2⟩ := sv0.push x (by omega) s0
  obtain ⟨W1, hW1⟩ : ∃ W1, W0.alloc (.cells #[.int .i64 x.1, .string x.2.1, .string x.2.2] 37) = W1 := ⟨_, rfl⟩
  rw [hW1] at hrun
  have cl2 : Cl A v W2 := cl0.mv m2 nA
  have cl1 : Cl A v W1 := by rw [← hW1]; exact cl0.mv (E := fun _ => False) (Mv.alloc _ _ _) (fun q => q)
  obtain ⟨W3, hW3⟩ : ∃ W3, W2.setCell ⟨A, 0, none⟩ v' = W3 := ⟨_, rfl⟩
  have cl3 : Cl A v' W3 := by rw [← hW3]; exact cl2.set v'
  have nA' : nbk v' ≠ some A := fun q => by
    rcases at2 with z | ⟨k, z, hk⟩
    · exact nA (z ▸ q)
    · rw [q] at z; injection z with z; have := cl.lt; omega
  have mS : Mv (fun k => k = A) W2 W3 := by rw [← hW3]; exact Mv.set1 (E := fun k => k = A) rfl _
  have sv3 : Eg.SV W3 v' (l ++ [x]) := sv2.mv mS (fun k hk e => nA' (e ▸ hk))
  have fin : Hid (∃ v', Tk A v' W3 (l ++ [x]) ∧ Mv (fun k => k = A ∨ nbk v = some k) w W3 ∧ (nbk v' = nbk v ∨ ∃ k, nbk v' = some k ∧ w.heap.size ≤ k)) :=
    ⟨v', ⟨cl3, sv3, nA'⟩, ((Mv.below b0).trans' (m2.mono fun k _ q => .inr q)).trans' (mS.mono fun k _ q => .inl q), at2.imp id fun ⟨k, z, hk⟩ => ⟨k, z, by omega⟩⟩
  have c0 := cl0.c
  have c2 := cl2.c
  have c3 := cl3.c
  have f2 := cl2.f
  have bx0 : W0.cell? ⟨B, 0, none⟩ = some (.int .i64 x.1) := by rw [← hW0]; exact cell_at hB rfl
  have bx1 : W0.cell? ⟨B, 1, none⟩ = some (.string x.2.1) := by rw [← hW0]; exact cell_at hB rfl
  have bx2 : W0.cell? ⟨B, 2, none⟩ = some (.string x.2.2) := by rw [← hW0]; exact cell_at hB rfl
  obtain ⟨p3, c3', rfl⟩ := sv3.shape
  obtain ⟨n3, hn3⟩ : ∃ n3, (l ++ [x]).length = n3 := ⟨_, rfl⟩
  have hlt : ((n3 : Nat) : Int) < 500 := by rw [← hn3, List.length_append]; simp; omega
  rw [hn3] at c3 hrun hW3
  clear cl0 sv0 sv2 m2 at2 cl1 cl2 cl3 nA' mS sv3 b0 cl sv nA hn3
  rw [hB] at fin
  go_enter Tryd.func25, Tryd.ntmps25
  rw [hB]
  go_wp2_with (first | rw [hW0] | rw [s0] | rw [hW1] | refine wpList_append_run rfl _ _ _ rfl _ _ _ _ rfl rfl hrun ?_ | rw [hW3])
  go_ret
  exact ⟨rfl, fin.out⟩
end Go.Proofs.YtcfclknfnadgcaaDoor
