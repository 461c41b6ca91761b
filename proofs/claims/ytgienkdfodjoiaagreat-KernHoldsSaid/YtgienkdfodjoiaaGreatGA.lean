/- Groups in memory, whole; contracts of sets. -/
import Derived.Test.YtgienkdfodjoiaaGreatGM
namespace Go.Proofs.YtgienkdfodjoiaaGreat.Cg
open Go.RowKit Go.Shelf
structure St where
  bt : Nat
  bh : Nat
  bo : Nat
  bn : Nat
  nv : Value
  c : Nat
  l : Gl
  ns : List ByteArray
  x : Nat → Option Value
def Bs (S : St) : List Nat := S.bt :: S.bh :: S.bo :: S.bn :: S.l.map G.blk
def hasB (S : St) (k : Nat) : Prop := k ∈ Bs S ∨ nb S.nv = some k
/-- The set of the members. -/
def setZ (l : List Int) (a : Int) : Option Value := if a ∈ l then some unitV else none
def setS (l : List ByteArray) (s : ByteArray) : Option Value := if inN l s then some unitV else none
theorem setZ_u (l : List Int) (a : Int) : (setZ l a).getD unitV = unitV := by unfold setZ; split <;> rfl
theorem setS_u (l : List ByteArray) (a : ByteArray) : (setS l a).getD unitV = unitV := by unfold setS; split <;> rfl
structure Gs (w : World) (S : St) : Prop where
  c0 : w.cell? ⟨S.bt, 3, none⟩ = some (.map (some S.bh))
  c1 : w.cell? ⟨S.bt, 4, none⟩ = some (.map (some S.bo))
  c2 : w.cell? ⟨S.bt, 5, none⟩ = some S.nv
  c3 : w.cell? ⟨S.bt, 6, none⟩ = some (.map (some S.bn))
  fz : ∀ j, w.frozen? ⟨S.bt, j, none⟩ = false
  held : ∃ m, m ≤ S.c ∧ MS w S.bh m fun s => (fnd S.l s).map gV
  homes : ∃ m, m ≤ S.c ∧ MZ w S.bo m fun a => (hm S.l a).map gV
  noted : ∃ m, m ≤ S.c ∧ MS w S.bn m (setS S.ns)
  mem : ∀ g ∈ S.l, MZ w g.blk g.pids.length (setZ g.pids)
  nts : NS w S.nv S.ns
  ap : (Bs S).Pairwise (· ≠ ·)
  nbp : ∀ k, nb S.nv = some k → k ∉ Bs S
  wf : Wf S.l S.ns
  pl : ∀ g ∈ S.l, g.pids.length ≤ S.c
  nl : S.ns.length ≤ S.c
  cx : ∀ j, (j < 3 ∨ 7 ≤ j) → w.cell? ⟨S.bt, j, none⟩ = S.x j
theorem Gs.lt {w : World} {S : St} (h : Gs w S) {k : Nat} (hk : hasB S k) : k < w.heap.size := by
  rcases hk with hk | hk
  · unfold Bs at hk
    simp only [List.mem_cons, List.mem_map] at hk
    rcases hk with rfl | rfl | rfl | rfl | ⟨g, hg, rfl⟩
    · exact cell_lt h.c0
    · obtain ⟨m, _, q⟩ := h.held; exact q.lt
    · obtain ⟨m, _, q⟩ := h.homes; exact q.lt
    · obtain ⟨m, _, q⟩ := h.noted; exact q.lt
    · exact (h.mem g hg).lt
  · exact h.nts.lt hk
theorem hasT (S : St) : hasB S S.bt := .inl (by simp [Bs])
theorem hasH (S : St) : hasB S S.bh := .inl (by simp [Bs])
theorem hasO (S : St) : hasB S S.bo := .inl (by simp [Bs])
theorem hasN (S : St) : hasB S S.bn := .inl (by simp [Bs])
theorem hasG {S : St} {g : G} (h : g ∈ S.l) : hasB S g.blk := .inl (by simp only [Bs, List.mem_cons, List.mem_map]; exact .inr (.inr (.inr (.inr ⟨g, h, rfl⟩))))
/-- What is not of the groups may turn. -/
theorem Gs.mv {w w' : World} {S : St} {E : Nat → Prop} (h : Gs w S) (m : Mv E w w') (hE : ∀ k, hasB S k → ¬ E k) : Gs w' S := by
  have ht := hE _ (hasT S)
  obtain ⟨m1, a1, q1⟩ := h.held
  obtain ⟨m2, a2, q2⟩ := h.homes
  obtain ⟨m3, a3, q3⟩ := h.noted
  exact ⟨m.cell ht h.c0, m.cell ht h.c1, m.cell ht h.c2, m.cell ht h.c3, fun j => (m.froz (a := ⟨S.bt, j, none⟩) ht (h.lt (hasT S))).trans (h.fz j),
    ⟨m1, a1, q1.mv m (hE _ (hasH S))⟩, ⟨m2, a2, q2.mv m (hE _ (hasO S))⟩, ⟨m3, a3, q3.mv m (hE _ (hasN S))⟩, fun g hg => (h.mem g hg).mv m (hE _ (hasG hg)), h.nts.mv m (fun k hk => hE k (.inr hk)), h.ap, h.nbp, h.wf, h.pl, h.nl, fun j hj => (m.cellq (a := ⟨S.bt, j, none⟩) ht (h.lt (hasT S))).trans (h.cx j hj)⟩
theorem Gs.below {w w' : World} {S : St} (h : Gs w S) (b : Below w.heap.size w w') : Gs w' S := h.mv (E := fun _ => False) (Mv.below b) (fun _ _ h => h)
/-- From S at w to S' at w'. -/
structure Goes (S : St) (w : World) (S' : St) (w' : World) (d : Nat) : Prop where
  g : Gs w' S'
  bt : S'.bt = S.bt
  x : S'.x = S.x
  mv : Mv (hasB S) w w'
  gr : ∀ k, hasB S' k → hasB S k ∨ w.heap.size ≤ k
  c : S'.c ≤ S.c + d
theorem Goes.trans {S T U : St} {w v u : World} {d e : Nat} (h : Goes S w T v d) (k : Goes T v U u e) : Goes S w U u (d + e) :=
  ⟨k.g, k.bt.trans h.bt, k.x.trans h.x, h.mv.trans h.gr k.mv, fun x hx => by
    rcases k.gr x hx with q | q
    · exact h.gr x q
    · exact .inr (Nat.le_trans h.mv.size q), by have := h.c; have := k.c; omega⟩
theorem Goes.refl {S : St} {w : World} (h : Gs w S) : Goes S w S w 0 := ⟨h, rfl, rfl, Mv.refl _ _, fun _ h => .inl h, by omega⟩
theorem Goes.mono {S T : St} {w v : World} {d e : Nat} (h : Goes S w T v d) (hd : d ≤ e) : Goes S w T v e := ⟨h.g, h.bt, h.x, h.mv, h.gr, by have := h.c; omega⟩
theorem Goes.below {S : St} {w w' : World} (h : Gs w S) (b : Below w.heap.size w w') : Goes S w S w' 0 := ⟨h.below b, rfl, rfl, Mv.below b, fun _ h => .inl h, by omega⟩
/-- What lies besides is as it was, and stays besides. -/
theorem Goes.beside {S T : St} {w v : World} {d : Nat} (h : Goes S w T v d) {k : Nat} (hk : k < w.heap.size) (hb : ¬ hasB S k) : v.heap[k]? = w.heap[k]? ∧ ¬ hasB T k :=
  ⟨h.mv.block k hk hb, fun q => by rcases h.gr k q with r | r; exact hb r; omega⟩
set_option maxRecDepth 100000 in
set_option maxHeartbeats 1000000 in
theorem hasZ_any (b m : Nat) (f : Int → Option Value) (a : Int) (w : World) (h : MZ w b m f) (h0 : -9223372036854775808 ≤ a) (h1 : a ≤ 9223372036854775807) (hu : (f a).getD unitV = unitV) :
    Calls Tryz.prog 88 #[.map (some b), .int .i64 a] w fun e w' => e = .returned (.bool (f a).isSome) ∧ Below w.heap.size w w' := by
  have hlk := h.look lawZ (t := 129) Tryz.underlying129 (zeroU w) (keyZ h0 h1)
  obtain ⟨s, hs⟩ : ∃ s, (f a).isSome = s := ⟨_, rfl⟩
  rw [hs, hu] at hlk
  unfold unitV at hlk
  rw [hs]
  go_enter Tryz.func88, Tryz.ntmps88
  have hst : (storeCells ⟨w.heap.size, 0, none⟩ []).run Tryz.prog (w.alloc (.cells #[] 181)) = .ok () (w.alloc (.cells #[] 181)) := rfl
  clear h hs hu
  go_wp2_with (rw [hst])
  go_ret
  exact ⟨rfl, (Below.refl _ _).alloc (Nat.le_refl _) _⟩
set_option maxRecDepth 100000 in
set_option maxHeartbeats 1000000 in
theorem hasS_any (b m : Nat) (f : ByteArray → Option Value) (a : ByteArray) (w : World) (h : MS w b m f) (h0 : a.size ≤ 1000) (hu : (f a).getD unitV = unitV) :
    Calls Tryz.prog 108 #[.map (some b), .string a] w fun e w' => e = .returned (.bool (f a).isSome) ∧ Below w.heap.size w w' := by
  have hlk := h.look lawS (t := 107) Tryz.underlying107 (zeroU w) (keyS h0)
  obtain ⟨s, hs⟩ : ∃ s, (f a).isSome = s := ⟨_, rfl⟩
  rw [hs, hu] at hlk
  unfold unitV at hlk
  rw [hs]
  go_enter Tryz.func108, Tryz.ntmps108
  have hst : (storeCells ⟨w.heap.size, 0, none⟩ []).run Tryz.prog (w.alloc (.cells #[] 181)) = .ok () (w.alloc (.cells #[] 181)) := rfl
  clear h hs hu
  go_wp2_with (rw [hst])
  go_ret
  exact ⟨rfl, (Below.refl _ _).alloc (Nat.le_refl _) _⟩
set_option maxRecDepth 100000 in
set_option maxHeartbeats 1000000 in
theorem addZ_any (b m : Nat) (f : Int → Option Value) (a : Int) (w : World) (h : MZ w b m f) (h0 : -9223372036854775808 ≤ a) (h1 : a ≤ 9223372036854775807) (hm : m ≤ 1000000) :
    Calls Tryz.prog 89 #[.map (some b), .int .i64 a] w fun e w' => e = .returned (.tuple #[]) ∧ MZ w' b (upN (f a).isSome m) (fun x => if x = a then some unitV else f x) ∧ Mv (fun k => k = b) w w' := by
  obtain ⟨w', hrun, h', mv⟩ := h.store lawZ (fun _ _ => eZ_inj) klZ (t := 129) Tryz.underlying129 (keyZ h0 h1) unitV (by unfold maxLen; omega)
  have fin := hidP (And.intro h' mv)
  unfold unitV at hrun
  clear h' mv h
  go_enter Tryz.func89, Tryz.ntmps89
  go_wp2_with fail
  refine bodyPost_end (v := .tuple #[]) (by simp [results, Tryz.results89, go_sem]) rfl ?_
  exact ⟨rfl, fin.out⟩
set_option maxRecDepth 100000 in
set_option maxHeartbeats 1000000 in
theorem addS_any (b m : Nat) (f : ByteArray → Option Value) (a : ByteArray) (w : World) (h : MS w b m f) (h0 : a.size ≤ 1000) (hm : m ≤ 1000000) :
    Calls Tryz.prog 109 #[.map (some b), .string a] w fun e w' => e = .returned (.tuple #[]) ∧ MS w' b (upN (f a).isSome m) (fun x => if x = a then some unitV else f x) ∧ Mv (fun k => k = b) w w' := by
  obtain ⟨w', hrun, h', mv⟩ := h.store lawS (fun _ _ => eS_inj) klS (t := 107) Tryz.underlying107 (keyS h0) unitV (by unfold maxLen; omega)
  have fin := hidP (And.intro h' mv)
  unfold unitV at hrun
  clear h' mv h
  go_enter Tryz.func109, Tryz.ntmps109
  go_wp2_with fail
  refine bodyPost_end (v := .tuple #[]) (by simp [results, Tryz.results109, go_sem]) rfl ?_
  exact ⟨rfl, fin.out⟩
set_option maxRecDepth 100000 in
set_option maxHeartbeats 1000000 in
theorem dropZ_any (b m : Nat) (f : Int → Option Value) (a : Int) (w : World) (h : MZ w b m f) (h0 : -9223372036854775808 ≤ a) (h1 : a ≤ 9223372036854775807) :
    Calls Tryz.prog 95 #[.map (some b), .int .i64 a] w fun e w' => e = .returned (.tuple #[]) ∧ MZ w' b (dnN (f a).isSome m) (fun x => if x = a then none else f x) ∧ Mv (fun k => k = b) w w' := by
  obtain ⟨w', hrun, h', mv⟩ := h.drop lawZ (fun _ _ => eZ_inj) (t := 129) Tryz.underlying129 (keyZ h0 h1) 0
  have fin := hidP (And.intro h' mv)
  clear h' mv h
  go_enter Tryz.func95, Tryz.ntmps95
  go_wp2_with fail
  refine bodyPost_end (v := .tuple #[]) (by simp [results, Tryz.results95, go_sem]) rfl ?_
  exact ⟨rfl, fin.out⟩
set_option maxRecDepth 100000 in
set_option maxHeartbeats 1000000 in
theorem dropS_any (b m : Nat) (f : ByteArray → Option Value) (a : ByteArray) (w : World) (h : MS w b m f) (h0 : a.size ≤ 1000) :
    Calls Tryz.prog 103 #[.map (some b), .string a] w fun e w' => e = .returned (.tuple #[]) ∧ MS w' b (dnN (f a).isSome m) (fun x => if x = a then none else f x) ∧ Mv (fun k => k = b) w w' := by
  obtain ⟨w', hrun, h', mv⟩ := h.drop lawS (fun _ _ => eS_inj) (t := 107) Tryz.underlying107 (keyS h0) 0
  have fin := hidP (And.intro h' mv)
  clear h' mv h
  go_enter Tryz.func103, Tryz.ntmps103
  go_wp2_with fail
  refine bodyPost_end (v := .tuple #[]) (by simp [results, Tryz.results103, go_sem]) rfl ?_
  exact ⟨rfl, fin.out⟩
end Go.Proofs.YtgienkdfodjoiaaGreat.Cg
