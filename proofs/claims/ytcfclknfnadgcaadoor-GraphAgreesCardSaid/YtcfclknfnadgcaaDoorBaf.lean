import Derived.Test.YtcfclknfnadgcaaDoorBae
import Derived.Test.YtcfclknfnadgcaaDoorGB3
import Derived.Test.YtcfclknfnadgcaaDoorGL
/- How many edges a unit has, at most. -/
namespace Go.Proofs.YtcfclknfnadgcaaDoor
theorem nd_le {α : Type} [DecidableEq α] : ∀ {ys zs : List α}, ys.Nodup → (∀ e ∈ ys, e ∈ zs) → ys.length ≤ zs.length
  | [], _, _, _ => Nat.zero_le _
  | y :: ys, zs, h, hs => by
    have h1 := hs y (List.mem_cons_self ..)
    obtain ⟨n1, n2⟩ := List.nodup_cons.1 h
    have := nd_le (zs := zs.erase y) n2 fun e he => (List.mem_erase_of_ne (fun q => n1 (by rw [← q]; exact he))).2 (hs e (List.mem_cons_of_mem _ he))
    rw [List.length_erase_of_mem h1] at this
    have := List.length_pos_of_mem h1
    simp only [List.length_cons]
    omega
theorem kL_mem {L : UL} {e : Ed} (h : kL L e ≠ 0) : ∃ p ∈ L, e ∈ tolU p.2 := by
  unfold kL at h
  exact List.mem_flatMap.1 (cn_mem.1 (by omega))
def kinds : List Int := [1, 2, 3, 4, 5, 6, 8]
theorem rels_kinds (u : Un) : ∀ r ∈ relsU u, r.1 ∈ kinds ∧ (r.2.1 = true → r.1 = 6) := by
  intro r hr
  unfold relsU at hr
  rcases List.mem_append.1 hr with hr | hr
  · rcases List.mem_append.1 hr with hr | hr
    · unfold rels7 at hr
      simp only [List.mem_cons, List.not_mem_nil, or_false] at hr
      rcases hr with rfl | rfl | rfl | rfl | rfl | rfl | rfl <;> exact ⟨by simp [kinds], fun q => by first | rfl | cases q⟩
    · unfold relsT at hr
      split at hr
      · simp only [List.mem_cons, List.not_mem_nil, or_false] at hr
        rcases hr with rfl | rfl <;> exact ⟨by simp [kinds], fun q => by first | rfl | cases q⟩
      · cases hr
  · unfold relsD at hr
    split at hr
    · cases hr
    · split at hr
      all_goals
        simp only [List.mem_cons, List.not_mem_nil, or_false] at hr
        rcases hr with rfl | rfl <;> exact ⟨by simp [kinds], fun q => by first | rfl | cases q⟩
theorem tol_mem {u : Un} {e : Ed} (h : e ∈ tolU u) : ∃ r ∈ relsU u, ∃ o ∈ r.2.2, okO u.nm o = true ∧ e = edO u.nm r.1 r.2.1 o := by
  obtain ⟨r, hr, he⟩ := List.mem_flatMap.1 h
  obtain ⟨o, ho, rfl⟩ := List.mem_map.1 he
  obtain ⟨h1, h2⟩ := List.mem_filter.1 ho
  exact ⟨r, hr, o, h1, h2, rfl⟩
def FewU (u : Un) : Prop := ∀ i, i < 7 → (u.ls i).length ≤ 16
theorem edR_len (n : ByteArray) (r : Rl) : (edR n r).length ≤ r.2.2.length := by
  unfold edR; rw [List.length_map]; exact List.length_filter_le ..
theorem tol_len {u : Un} (h : FewU u) : (tolU u).length ≤ 146 := by
  have e : ∀ l : List Rl, (l.flatMap (edR u.nm)).length ≤ (l.map fun r => r.2.2.length).sum := by
    intro l
    induction l with
    | nil => exact Nat.le_refl _
    | cons r l ih =>
      rw [List.flatMap_cons, List.length_append, List.map_cons, List.sum_cons]
      have := edR_len u.nm r
      omega
  refine Nat.le_trans (e _) ?_
  unfold relsU
  rw [List.map_append, List.map_append, List.sum_append, List.sum_append]
  have a0 := h 0 (by omega)
  have a1 := h 1 (by omega)
  have a2 := h 2 (by omega)
  have a3 := h 3 (by omega)
  have a4 := h 4 (by omega)
  have a5 := h 5 (by omega)
  have a6 := h 6 (by omega)
  have h7 : ((rels7 u).map fun r => r.2.2.length).sum ≤ 112 := by
    simp only [rels7, List.map_cons, List.map_nil, List.sum_cons, List.sum_nil]; omega
  have hT : ((relsT u).map fun r => r.2.2.length).sum ≤ 2 := by
    unfold relsT; split <;> simp
  have hD : ((relsD u).map fun r => r.2.2.length).sum ≤ 32 := by
    unfold relsD
    split
    · simp
    · split
      · simp only [List.map_cons, List.map_nil, List.sum_cons, List.sum_nil]; omega
      · simp
  omega
theorem one_of {L : UL} (hnd : L.Pairwise fun p q => p.2.nm ≠ q.2.nm) (x : ByteArray) : (L.filter fun p => decide (p.2.nm = x)).length ≤ 1 := by
  have h := hnd.filter (fun p => decide (p.2.nm = x))
  cases e : L.filter fun p => decide (p.2.nm = x) with
  | nil => exact Nat.zero_le _
  | cons a l =>
    cases l with
    | nil => exact Nat.le_refl _
    | cons b l =>
      rw [e] at h
      have ha : a ∈ L.filter fun p => decide (p.2.nm = x) := by rw [e]; simp
      have hb : b ∈ L.filter fun p => decide (p.2.nm = x) := by rw [e]; simp
      have q := (List.pairwise_cons.1 h).1 b (by simp)
      exact absurd ((of_decide_eq_true (List.mem_filter.1 ha).2).trans (of_decide_eq_true (List.mem_filter.1 hb).2).symm) q
theorem flat_one {α β : Type} {l : List α} (h : l.length ≤ 1) (f : α → List β) {n : Nat} (hf : ∀ a ∈ l, (f a).length ≤ n) : (l.flatMap f).length ≤ n := by
  match l, h with
  | [], _ => exact Nat.zero_le _
  | [a], _ =>
    rw [List.flatMap_cons, List.flatMap_nil, List.append_nil]
    exact hf a (by simp)
/-- Edges from a unit are few. -/
theorem out_le {L : UL} (hL : L.length ≤ 50) (hnd : L.Pairwise fun p q => p.2.nm ≠ q.2.nm) (hF : ∀ p ∈ L, FewU p.2) (x : ByteArray) (ys : List Ed) (nd : ys.Nodup) (mem : ∀ e, e ∈ ys ↔ fw (kL L) x e ≠ 0) : ys.length ≤ 499 := by
  have h := nd_le (zs := (L.filter fun p => decide (p.2.nm = x)).flatMap (fun p => tolU p.2) ++ L.map fun p => ((6 : Int), x, p.2.nm)) nd (fun e he => by
    have he := (mem e).1 he
    unfold fw at he
    by_cases hx : e.2.1 = x
    · rw [if_pos hx] at he
      obtain ⟨p, hp, ht⟩ := kL_mem he
      obtain ⟨r, hr, o, ho, hok, rfl⟩ := tol_mem ht
      cases hb : r.2.1 with
      | false =>
        unfold edO at hx
        rw [hb] at hx
        simp only [Bool.false_eq_true, if_false] at hx
        exact List.mem_append_left _ (List.mem_flatMap.2 ⟨p, List.mem_filter.2 ⟨hp, decide_eq_true hx⟩, hb ▸ ht⟩)
      | true =>
        have h6 := (rels_kinds _ r hr).2 hb
        unfold edO at hx ⊢
        rw [hb] at hx
        simp only [if_true] at hx ⊢
        refine List.mem_append_right _ (List.mem_map.2 ⟨p, hp, ?_⟩)
        rw [h6, hx]
    · rw [if_neg hx] at he; exact absurd rfl he)
  rw [List.length_append, List.length_map] at h
  have := flat_one (one_of hnd x) (fun p => tolU p.2) (n := 146) (fun p hp => tol_len (hF p (List.mem_filter.1 hp).1))
  omega
def turnU (u : Un) : List ByteArray := ((relsU u).filter fun r => r.2.1).flatMap fun r => r.2.2
theorem turn_len {u : Un} (h : FewU u) : (turnU u).length ≤ 18 := by
  have a6 := h 6 (by omega)
  unfold turnU relsU
  rw [List.filter_append, List.filter_append, List.flatMap_append, List.flatMap_append, List.length_append, List.length_append]
  have h7 : (((rels7 u).filter fun r => r.2.1).flatMap fun r => r.2.2).length ≤ 16 := by
    simp [rels7]; exact a6
  have hT : (((relsT u).filter fun r => r.2.1).flatMap fun r => r.2.2).length ≤ 1 := by
    unfold relsT; split <;> simp
  have hD : (((relsD u).filter fun r => r.2.1).flatMap fun r => r.2.2).length ≤ 1 := by
    unfold relsD
    split
    · simp
    · split <;> simp
  omega
theorem kinds_len (L : UL) (x : ByteArray) : (L.flatMap fun p => kinds.map fun k => ((k : Int), p.2.nm, x)).length = L.length * 7 := by
  induction L with
  | nil => rfl
  | cons p L ih =>
    rw [List.flatMap_cons, List.length_append, ih, List.length_map, List.length_cons]
    show 7 + _ = _
    omega
/-- Edges to a unit are few. -/
theorem into_le {L : UL} (hL : L.length ≤ 50) (hnd : L.Pairwise fun p q => p.2.nm ≠ q.2.nm) (hF : ∀ p ∈ L, FewU p.2) (x : ByteArray) (ys : List Ed) (nd : ys.Nodup) (mem : ∀ e, e ∈ ys ↔ bw (kL L) x e ≠ 0) : ys.length ≤ 499 := by
  have h := nd_le (zs := (L.filter fun p => decide (p.2.nm = x)).flatMap (fun p => (turnU p.2).map fun o => ((6 : Int), o, x)) ++ L.flatMap fun p => kinds.map fun k => ((k : Int), p.2.nm, x)) nd (fun e he => by
    have he := (mem e).1 he
    unfold bw at he
    by_cases hx : e.2.2 = x
    · rw [if_pos hx] at he
      obtain ⟨p, hp, ht⟩ := kL_mem he
      obtain ⟨r, hr, o, ho, hok, rfl⟩ := tol_mem ht
      obtain ⟨hk, h6⟩ := rels_kinds _ r hr
      cases hb : r.2.1 with
      | false =>
        unfold edO at hx ⊢
        rw [hb] at hx
        simp only [Bool.false_eq_true, if_false] at hx ⊢
        refine List.mem_append_right _ (List.mem_flatMap.2 ⟨p, hp, List.mem_map.2 ⟨r.1, hk, ?_⟩⟩)
        rw [hx]
      | true =>
        unfold edO at hx ⊢
        rw [hb] at hx
        simp only [if_true] at hx ⊢
        refine List.mem_append_left _ (List.mem_flatMap.2 ⟨p, List.mem_filter.2 ⟨hp, decide_eq_true hx⟩, List.mem_map.2 ⟨o, List.mem_flatMap.2 ⟨r, List.mem_filter.2 ⟨hr, hb⟩, ho⟩, ?_⟩⟩)
        rw [h6 hb, hx]
    · rw [if_neg hx] at he; exact absurd rfl he)
  rw [List.length_append, kinds_len] at h
  have := flat_one (one_of hnd x) (fun p => (turnU p.2).map fun o => ((6 : Int), o, x)) (n := 18) (fun p hp => by rw [List.length_map]; exact turn_len (hF p (List.mem_filter.1 hp).1))
  omega
end Go.Proofs.YtcfclknfnadgcaaDoor
/- The law's own few: steps that are looked at. -/
namespace Go.Proofs.YtcfclknfnadgcaaDoor
open Go.RowKit Go.Shelf Go.Lib
theorem ldAt {w : World} {b o : Nat} {vs : Array Value} (h : ∀ p v, vs[p]? = some v → w.cell? ⟨b, o + p, none⟩ = some v) (hs : vs.size = 33) : (loadCells ⟨b, o, none⟩ 33).run Tryd.prog w = .ok vs w := by
  have := run_loadCells_list (P := Tryd.prog) (w := w) ⟨b, o, none⟩ vs.toList (fun j v hj => by
    rw [Addr.add_lit]
    exact h j v (by rw [← Array.getElem?_toList]; exact hj))
  simpa [hs] using this
/-- A step that came in: whether it adds, the unit, a name. -/
structure Stp where
  ad : Bool
  vs : Array Value
  u : Un
  nm : ByteArray
/-- Step x lies in block b from o on. -/
structure SpAt (w : World) (b o : Nat) (x : Stp) : Prop where
  a : w.cell? ⟨b, o, none⟩ = some (.bool x.ad)
  u : ∀ p v, x.vs[p]? = some v → w.cell? ⟨b, o + 1 + p, none⟩ = some v
  n : w.cell? ⟨b, o + 34, none⟩ = some (.string x.nm)
/-- The steps l behind slice v. -/
structure SpIs (w : World) (v : Value) (l : List Stp) : Prop where
  sh : ∃ p c, v = .slice p l.length c
  le : l.length ≤ 140737488355328
  at_ : ∀ j x, l[j]? = some x → ∃ b o c, v = .slice (some ⟨b, o, none⟩) l.length c ∧ SpAt w b (o + j * 35) x
  ok : ∀ x ∈ l, UW w x.vs x.u ∧ x.nm.size ≤ 9223372036854775807
/-- Block k holds something of the steps. -/
def hasSp (v : Value) (l : List Stp) (k : Nat) : Prop := (∃ o n c, v = .slice (some ⟨k, o, none⟩) n c) ∨ ∃ x ∈ l, ubk x.vs k
theorem SpIs.mv {w w' : World} {v : Value} {l : List Stp} {E : Nat → Prop} (h : SpIs w v l) (m : Mv E w w') (hE : ∀ k, hasSp v l k → ¬ E k) : SpIs w' v l :=
  ⟨h.sh, h.le, fun j x hj => by
    obtain ⟨b, o, c, e, q⟩ := h.at_ j x hj
    have nb : ¬ E b := hE b (.inl ⟨o, _, c, e⟩)
    exact ⟨b, o, c, e, m.cell (a := ⟨b, _, none⟩) nb q.a, fun p v hp => m.cell (a := ⟨b, _, none⟩) nb (q.u p v hp), m.cell (a := ⟨b, _, none⟩) nb q.n⟩,
    fun x hx => ⟨(h.ok x hx).1.mv m (fun b hb => hE b (.inr ⟨x, hx, hb⟩)), (h.ok x hx).2⟩⟩
theorem SpIs.below {w w' : World} {v : Value} {l : List Stp} (h : SpIs w v l) (b : Below w.heap.size w w') : SpIs w' v l := h.mv (E := fun _ => False) (Mv.below b) (fun _ _ q => q)
/-- What the law's few answers. -/
def LfE (l : List Stp) (w : World) (e : Ending) (w' : World) : Prop := ∃ q, e = .returned (.bool q) ∧ (q = true → l.length ≤ 50 ∧ ∀ x ∈ l, FewS x.u) ∧ Below w.heap.size w w'
set_option maxRecDepth 100000 in
set_option maxHeartbeats 4000000 in
theorem lawFew_any (v : Value) (l : List Stp) (w : World) (h : SpIs w v l) :
    Calls Tryd.prog 7 #[v] w (LfE l w) := by
  obtain ⟨p, c, rfl⟩ := h.sh
  obtain ⟨n, hn⟩ : ∃ n, l.length = n := ⟨_, rfl⟩
  have hN := hidP hn
  have hn9 : n ≤ 140737488355328 := by have := h.le; omega
  have hcel : Hid (∀ wr, Below w.heap.size w wr → ∀ j x, l[j]? = some x → ∃ b o, p = some ⟨b, o, none⟩ ∧ SpAt wr b (o + j * 35) x ∧ UW wr x.vs x.u ∧ x.nm.size ≤ 9223372036854775807) := fun wr bw j x hj => by
    have h' := h.below bw
    obtain ⟨b, o, c', e, q⟩ := h'.at_ j x hj
    injection e with e1 e2 e3
    exact ⟨b, o, e1, q, h'.ok x (List.mem_of_getElem? hj)⟩
  rw [hn]
  clear h hn
  go_enter Tryd.func7, Tryd.ntmps7
  go_wp2_with fail
  go_loopw [3] (fun i wr => ∃ k : Nat, k ≤ n ∧ i = .int .i64 k ∧ Hid (Below w.heap.size w wr) ∧ Hid (∀ x ∈ l.take k, FewS x.u)) (fun i _ => n - (intOf i).toNat)
  case atStart => exact ⟨0, by omega, rfl, Below.refl _ _, fun x hx => by cases hx⟩
  case round =>
    obtain ⟨k, hk, rfl, hB, hT⟩ := hrel
    by_cases hkl : k < n
    · have hkI : (k : Int) < (n : Int) := by omega
      obtain ⟨x, hx⟩ : ∃ x, l[k]? = some x := ⟨_, List.getElem?_eq_getElem (by rw [hN.out]; exact hkl)⟩
      obtain ⟨b, o, rfl, q, hu, hz⟩ := hcel.out wr hB.out k x hx
      have hld := ldAt q.u hu.sz
      have cn := q.n
      have hF := few_any x.vs x.u wr hu
      have hT2 : Hid (FewS x.u → ∀ x ∈ l.take (k + 1), FewS x.u) := fun hf y hy => by
        obtain ⟨h1, h2⟩ := List.getElem?_eq_some_iff.1 hx
        rw [List.take_succ_eq_append_getElem h1, h2] at hy
        rcases List.mem_append.1 hy with hy | hy
        · exact hT.out y hy
        · rw [List.mem_singleton.1 hy]; exact hf
      clear hT hx q hu
      go_wp2_with (refine wpList_loadU rfl _ rfl _ rfl _ hld ?_)
      refine hF.mono ?_
      rintro e w2 ⟨r, rfl, hr, hb2⟩
      have cn2 := bcell hb2 (cell_lt cn) cn
      have hB2 : Hid (Below w.heap.size w w2) := hB.out.trans (hb2.mono hB.out.size)
      have hrH := hidP hr
      clear hF hr hb2 cn hld hB
      cases r with
      | false =>
        go_wp2_with fail
        go_ret
        exact ⟨false, rfl, (fun q => by cases q), hB2.out⟩
      | true =>
        by_cases hnm : (100 : Int) < (x.nm.size : Int)
        · go_wp2_with fail
          go_ret
          exact ⟨false, rfl, (fun q => by cases q), hB2.out⟩
        · have hnd : decide ((100 : Int) < (x.nm.size : Int)) = false := decide_eq_false hnm
          go_wp2_with fail
          exact ⟨⟨k + 1, by omega, by go_num, hB2, hT2.out (hrH.out trivial)⟩, by simp [intOf]; omega⟩
    · have hke : k = n := by omega
      subst hke
      have hkI : ¬ (k : Int) < (k : Int) := by omega
      have hkd : decide ((k : Int) < (k : Int)) = false := decide_eq_false hkI
      have fin : Hid (∀ x ∈ l, FewS x.u) := by
        have := hT.out
        rwa [List.take_of_length_le (by rw [hN.out]; exact Nat.le_refl _)] at this
      clear hT
      go_wp2_with fail
      go_ret
      refine ⟨_, rfl, fun q => ⟨?_, fin.out⟩, hB.out⟩
      rw [hN.out]
      have := of_decide_eq_true q
      omega
end Go.Proofs.YtcfclknfnadgcaaDoor
/- Contracts of graph.New and Has. -/
namespace Go.Proofs.YtcfclknfnadgcaaDoor
open Go.RowKit Go.Shelf Go.Lib
theorem En.fresh {w : World} {b : Nat} (h : MS w b 0 fun _ => none) : En w b (fun _ => none) (fun _ _ => 0) 0 :=
  ⟨⟨0, Nat.le_refl _, h⟩, (fun _ _ h => by cases h), fun _ _ _ => rfl, (fun _ _ _ h => by cases h), (fun _ _ h => by cases h), fun _ _ => ⟨by omega, by omega⟩, fun _ _ h => absurd rfl h⟩
theorem fw_zero : fw (kL []) = fun _ _ => 0 := by
  funext x e
  unfold fw kL
  simp [cn]
theorem bw_zero : bw (kL []) = fun _ _ => 0 := by
  funext x e
  unfold bw kL
  simp [cn]
set_option maxRecDepth 100000 in
set_option maxHeartbeats 1000000 in
theorem new_any (w : World) : Calls Tryd.prog 8 #[] w fun e w' => ∃ S, e = .returned (.pointer (some ⟨S.gb, 0, none⟩)) ∧ Gs w' S [] ∧ (∀ k, hasG S k → w.heap.size ≤ k) ∧ S.c = 0 ∧ Below w.heap.size w w' := by
  obtain ⟨n, hn⟩ : ∃ n, w.heap.size = n := ⟨_, rfl⟩
  have hmm := @run_makeMap Tryd.prog
  obtain ⟨W, hW⟩ : ∃ W, (((w.alloc (.map #[] 0)).alloc (.map #[] 0)).alloc (.map #[] 0)).alloc (.cells #[.map (some n), .map (some (n + 1)), .map (some (n + 2))] 53) = W := ⟨_, rfl⟩
  have fin : Hid (∃ S, Ending.returned (.pointer (some ⟨n + 3, 0, none⟩)) = .returned (.pointer (some ⟨S.gb, 0, none⟩)) ∧ Gs W S [] ∧ (∀ k, hasG S k → w.heap.size ≤ k) ∧ S.c = 0 ∧ Below w.heap.size w W) := by
    have b : Below w.heap.size w W := by rw [← hW]; exact ((((Below.refl _ _).alloc (Nat.le_refl _) _).alloc (by simp) _).alloc (by simp; omega) _).alloc (by simp; omega) _
    have c : ∀ j v, #[Value.map (some n), .map (some (n + 1)), .map (some (n + 2))][j]? = some v → W.cell? ⟨n + 3, j, none⟩ = some v := fun j v hj => by rw [← hW]; exact cell_at (by simp; omega) hj
    have m0 : MS W n 0 fun _ => none := by
      have : MS (w.alloc (.map #[] 0)) n 0 fun _ => none := by rw [← hn]; exact MapIs.made _
      rw [← hW]
      exact ((this.mv (Mv.alloc (fun _ => False) _ _) (fun q => q)).mv (Mv.alloc (fun _ => False) _ _) (fun q => q)).mv (Mv.alloc (fun _ => False) _ _) (fun q => q)
    have m1 : MS W (n + 1) 0 fun _ => none := by
      have : MS ((w.alloc (.map #[] 0)).alloc (.map #[] 0)) (n + 1) 0 fun _ => none := by
        have q := MapIs.made (k := 9) (e := eS) (w.alloc (.map #[] 0))
        rw [show (w.alloc (.map #[] 0)).heap.size = n + 1 by simp [hn]] at q
        exact q
      rw [← hW]
      exact (this.mv (Mv.alloc (fun _ => False) _ _) (fun q => q)).mv (Mv.alloc (fun _ => False) _ _) (fun q => q)
    have m2 : MS W (n + 2) 0 fun _ => none := by
      have : MS (((w.alloc (.map #[] 0)).alloc (.map #[] 0)).alloc (.map #[] 0)) (n + 2) 0 fun _ => none := by
        have q := MapIs.made (k := 9) (e := eS) ((w.alloc (.map #[] 0)).alloc (.map #[] 0))
        rw [show ((w.alloc (.map #[] 0)).alloc (.map #[] 0)).heap.size = n + 2 by simp [hn]] at q
        exact q
      rw [← hW]
      exact this.mv (Mv.alloc (fun _ => False) _ _) (fun q => q)
    have hE : ∀ k, hasEd ⟨n + 3, n, n + 1, n + 2, fun _ => none, fun _ => none, 0⟩ k → k = n + 1 ∨ k = n + 2 := fun k hk => by
      rcases hk with (rfl | ⟨x, hx⟩) | (rfl | ⟨x, hx⟩)
      · exact .inl rfl
      · cases hx
      · exact .inr rfl
      · cases hx
    refine ⟨⟨n + 3, n, n + 1, n + 2, fun _ => none, fun _ => none, 0⟩, rfl, ⟨c 0 _ rfl, m0.cong (fun _ => rfl), (fun p hp => by cases hp), List.Pairwise.nil, ⟨c 1 _ rfl, c 2 _ rfl, by rw [fw_zero]; exact En.fresh m1, by rw [bw_zero]; exact En.fresh m2, fun k hk q => ?_, fun q => ?_⟩, fun q => ?_, by show n ≠ n + 3; omega⟩, fun k hk => ?_, rfl, b⟩
    · rcases hk with rfl | ⟨x, hx⟩
      · rcases q with q | ⟨x, hx⟩
        · exact absurd q (by show ¬ n + 1 = n + 2; omega)
        · cases hx
      · cases hx
    · have := hE _ q; change n + 3 = n + 1 ∨ n + 3 = n + 2 at this; omega
    · have := hE _ q; change n = n + 1 ∨ n = n + 2 at this; omega
    · rcases hk with e | e | hk
      · change k = n + 3 at e; omega
      · change k = n at e; omega
      · have := hE k hk; omega
  go_enter Tryd.func8, Tryd.ntmps8
  go_wp2_with (rw [hW])
  go_ret
  exact fin.out
theorem look_nil (key : Value) (e : EK) (hk : key = edV e.1) (w : World) : (Instr.lookup 62 (.map none) key false).run Tryd.prog w = .ok (.int .i64 0) w := by
  subst hk
  have h2 := klawE.check w true (keyE e)
  rcases klawE.find w (keyE e) [] (fun _ h => by cases h) with ⟨h3, _⟩ | ⟨j, e0, _, h3, _⟩
  · simp [Instr.lookup, run_underlying undMe, h2, h3, Result.andThen]
  · simp at h3
set_option maxRecDepth 100000 in
set_option maxHeartbeats 1000000 in
theorem has_any (S : GS) (L : UL) (w : World) (h : Gs w S L) (k : Int) (a b : ByteArray) (hk : okE (k, a, b)) :
    Calls Tryd.prog 11 #[.pointer (some ⟨S.gb, 0, none⟩), .int .i64 k, .string a, .string b] w fun e w' => e = .returned (.bool (decide (0 < kL L (k, a, b)))) ∧ w' = w := by
  obtain ⟨m, hm, hA⟩ := h.ed.e1.all
  have c1 := h.ed.c1
  have hlk := hA.look1 lawS undEn (zeroMe w) (a := a) (keyS hk.2.1)
  obtain ⟨q, hq⟩ : ∃ q, kL L (k, a, b) = q := ⟨_, rfl⟩
  have hfw : fw (kL L) a (k, a, b) = q := by rw [← hq]; exact fw_at _ (k, a, b)
  cases hf : S.f1 a with
  | none =>
    rw [hf] at hlk
    simp only [Option.map_none, Option.getD_none] at hlk
    have hl2 := look_nil (.agg #[.int .i64 k, .string a, .string b]) ⟨(k, a, b), hk⟩ rfl w
    have h0 := h.ed.e1.non a hf (k, a, b)
    have hq0 : q = 0 := by rw [← hfw]; exact h0
    clear h hA hf hfw h0
    subst hq0
    rw [hq]
    go_enter Tryd.func11, Tryd.ntmps11
    go_wp2_with fail
    go_ret
    exact ⟨rfl, rfl⟩
  | some bl =>
    rw [hf] at hlk
    simp only [Option.map_some, Option.getD_some] at hlk
    obtain ⟨n, _, _, hM⟩ := h.ed.e1.sub a bl hf
    have hl2 := hM.look1 lawE undMe (zeroI w) (a := ⟨(k, a, b), hk⟩) (keyE ⟨(k, a, b), hk⟩)
    rw [cfS_get, hfw] at hl2
    unfold edV at hl2
    clear h hA hf hfw hM
    rw [hq]
    go_enter Tryd.func11, Tryd.ntmps11
    go_wp2_with fail
    go_ret
    exact ⟨rfl, rfl⟩
end Go.Proofs.YtcfclknfnadgcaaDoor
