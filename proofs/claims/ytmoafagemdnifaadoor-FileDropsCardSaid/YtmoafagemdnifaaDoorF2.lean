/- Files in memory; the row that slices.Backward makes of files; the set of headings that were emptied. -/
import Derived.Test.YtmoafagemdnifaaDoorF1
import Derived.DeepKeys4
namespace Go.Proofs.YtmoafagemdnifaaDoor
open Go.RowKit Go.Shelf
attribute [local go_sem] Oper.semAt_some
/-- The value is a slice of files, each with its settings, outside E. -/
def FsIs (E : Nat → Prop) (w : World) (v : Value) (fs : List (Value × List St)) : Prop :=
  ∃ a cap, v = .slice a fs.length cap ∧ (0 < fs.length → ∃ g o, a = some ⟨g, o, none⟩ ∧ ¬ E g ∧ ∀ (j : Nat) p, fs[j]? = some p → w.cell? ⟨g, o + j, none⟩ = some p.1) ∧ ∀ p ∈ fs, SlIs E w p.1 p.2
theorem FsIs.mv {E E' : Nat → Prop} {W V : World} {v : Value} {l : List (Value × List St)} (h : FsIs E W v l) (m : Mv E W V) (gr : Gr E W E') : FsIs E' V v l := by
  obtain ⟨a, cap, hv, hl, hf⟩ := h
  refine ⟨a, cap, hv, fun h0 => ?_, fun p hp => (hf p hp).mv m gr⟩
  obtain ⟨g, o, ha, hg, hs⟩ := hl h0
  have hgl : g < W.heap.size := cell_lt (hs 0 _ (List.getElem?_eq_getElem h0))
  exact ⟨g, o, ha, gr.free hgl hg, fun j x hx => m.cell hg (hs j x hx)⟩
def encF (p : Nat × (Value × List St)) : Array Value := #[.int .i64 p.1, .agg #[p.2.1]]
set_option maxRecDepth 100000 in
set_option maxHeartbeats 2000000 in
theorem backF_row (l : List (Value × List St)) (b : Nat) (v : Value) (E : Nat → Prop) (W : World) (cv : W.cell? ⟨b, 0, none⟩ = some v) (eb : ¬ E b) (hs : FsIs E W v l) (hl : l.length ≤ 1000000000) :
    Row Tryd.prog 40 #[.pointer (some ⟨b, 0, none⟩)] encF (bk l l.length) E W := by
  intro u J Jx E1 V m g hJ hJx hY h0
  have d1 := m.cell eb cv
  have f1 : ¬ E1 b := g.free (cell_lt cv) eb
  obtain ⟨a, cap, rfl, hs1, hfs⟩ := hs.mv m g
  obtain ⟨n, hn⟩ : ∃ n, l.length = n := ⟨_, rfl⟩
  rw [hn] at d1 hs1 h0 hl
  have hN : Hid (l.length = n) := hn
  clear hn hs cv
  refine (callsIn_wide (n := 5)).1 ?_
  refine callsIn_of_wp Tryd.func40 rfl trivial ?_ rfl
  simp only [Tryd.ntmps40, List.size_toArray, List.length_cons, List.length_nil, Nat.reduceAdd, Nat.reduceSub, Array.replicate_succ, Array.replicate_zero, List.push_toArray, List.append_toArray, List.nil_append, List.cons_append]
  gi_wp2
  gi_loopw [3] (fun i wr => ∃ (k : Nat) (z : Int) (E2 : Nat → Prop), k ≤ n ∧ z + 1 = k ∧ i = .int .i64 z ∧ J (bk l k) E2 wr ∧ Mv E1 V wr ∧ Gr E1 V E2) (fun i _ => (intOf i + 1).toNat)
  case atStart => exact ⟨n, _, E1, Nat.le_refl _, by omega, rfl, h0, Mv.refl _ _, Gr.refl _ _⟩
  case round =>
    obtain ⟨k, z, E2, k0, hz, rfl, hj, hm, hg⟩ := hrel
    have d3 := hm.cell f1 d1
    cases k with
    | succ j =>
      obtain rfl : z = (j : Int) := by omega
      obtain ⟨x, hx⟩ : ∃ x, l[j]? = some x := ⟨_, List.getElem?_eq_getElem (by rw [hN.out]; omega)⟩
      rw [bk_succ hx] at hj
      obtain ⟨gb, o, rfl, hgb, hst⟩ := hs1 (by omega)
      have p0 := hm.cell hgb (hst j x hx)
      obtain ⟨fn, tmps, assign, body, hy, hR⟩ := hY (j, x) _ E2 wr hj
      dsimp only [encF] at hy
      have hjn : (j : Int) < (n : Int) := by omega
      obtain ⟨a1, n1, c1, hxs, _⟩ : ∃ a n c, x.1 = .slice a n c ∧ True := by
        obtain ⟨a, c, h, _⟩ := hfs x (List.mem_of_getElem? hx); exact ⟨a, _, c, h, trivial⟩
      rw [hxs] at p0 hy
      clear hz hst hx hs1 hxs
      gi_wp2
      refine (wide_round' hR).mono ?_
      rintro e W3 ⟨m3, (⟨rfl, E3, g3, hj3⟩ | ⟨rfl, E3, g3, hj3⟩)⟩
      · gi_wp2
        exact ⟨⟨j, _, E3, by omega, by omega, rfl, hj3, hm.trans hg m3, hg.trans hm.size g3⟩, by simp [intOf]⟩
      · gi_wp2
        refine bodyPost_ret (results_none rfl _ _ _) rfl ?_
        exact ⟨⟨_, rfl⟩, hm.trans hg m3, .inr ⟨E3, hg.trans hm.size g3, hj3⟩⟩
    | zero =>
      obtain rfl : z = -1 := by omega
      gi_wp2
      go_end0
      exact ⟨⟨_, rfl⟩, hm, .inl ⟨E2, hg, hj⟩⟩
theorem laidOut : laidOutB Tryd.prog = true := by kernel_rfl
theorem rowH : (71 : TypeId) < Tryd.prog.types.size := of_decide_eq_true (by kernel_rfl)
theorem wideH : (match Tryd.prog.underlying 71 with | some (.array _ _) | some (.struct _) => true | _ => false) = true := by kernel_rfl
set_option maxRecDepth 100000 in
/-- Headings are keys of a map. -/
theorem lawH : Maps.Keyed Tryd.prog 71 := .of_law (deep_law_laid laidOut (m := 2) (by omega) rowH (by kernel_rfl) wideH)
def hdV (a b : ByteArray) : Value := .agg #[.string a, .string b]
set_option maxRecDepth 100000 in
theorem typesN : ∃ n, Tryd.prog.types.size = n + 1 := ⟨_, (Nat.succ_pred_eq_of_pos (Nat.lt_of_le_of_lt (Nat.zero_le _) rowH)).symm⟩
theorem cellsH : Tryd.prog.cellsOf 71 = 2 := by kernel_rfl
theorem cellsStr : Tryd.prog.cellsOf 9 = 1 := by kernel_rfl
theorem keyTypeH : Tryd.prog.keyType 71 = true := by kernel_rfl
theorem key_mk (a b : ByteArray) (ha : a.size ≤ maxLen) (hb : b.size ≤ maxLen) : ∃ kl, keyOf Tryd.prog 71 (hdV a b) = some kl := by
  obtain ⟨n, hn⟩ := typesN
  have hf : (hdV a b).formed Tryd.prog 71 = true := by simp [hdV, Value.formed, Tryd.underlying71, cellsH]
  unfold keyOf
  rw [Tryd.underlying71]
  simp only [keyTypeH, hf, Bool.and_self, if_true, Option.map_eq_some_iff]
  rw [hn]
  simp [hdV, Program.keyLits, Tryd.underlying71, Tryd.underlying9, cellsH, cellsStr, ha, hb, Value.cells]
/-- A heading is among S. -/
def inE (S : List (ByteArray × ByteArray)) (a c : ByteArray) : Bool := S.any fun p => decide (p.1 = a ∧ p.2 = c)
/-- Block b is the set of the headings S. -/
def Em (w : World) (b n : Nat) (S : List (ByteArray × ByteArray)) : Prop :=
  ∃ D, w.ownsMap Tryd.prog 71 (unitElem (H := Unit)) b n D ∧ ∀ a c kl, keyOf Tryd.prog 71 (hdV a c) = some kl → Maps.has D kl = inE S a c
theorem Em.new (w : World) : Em (w.alloc (.map #[] 0)) w.heap.size 0 [] := ⟨_, World.ownsMap_made _ _ _ _, fun _ _ _ _ => by simp [Maps.has, inE]⟩
theorem Em.mv {w w' : World} {b n : Nat} {S : List (ByteArray × ByteArray)} {E : Nat → Prop} (h : Em w b n S) (m : Mv E w w') (hE : ¬ E b) : Em w' b n S := by
  obtain ⟨D, ⟨es, c, hb, q⟩, hD⟩ := h
  exact ⟨D, ⟨es, c, (m.block b (Array.getElem?_eq_some_iff.1 hb).1 hE).trans hb, q⟩, hD⟩
theorem Em.lt {w : World} {b n : Nat} {S : List (ByteArray × ByteArray)} (h : Em w b n S) : b < w.heap.size := by obtain ⟨D, h, _⟩ := h; exact h.lt
theorem Em.mono {w : World} {b n m : Nat} {S : List (ByteArray × ByteArray)} (h : Em w b n S) (hm : n ≤ m) : Em w b m S := by obtain ⟨D, h, h2⟩ := h; exact ⟨D, h.mono hm, h2⟩
theorem Em.put {w : World} {b n : Nat} {S : List (ByteArray × ByteArray)} {D : DataW Unit} {a c : ByteArray} {kl : Lit} (h : w.ownsMap Tryd.prog 71 (unitElem (H := Unit)) b n (D.put kl (.agg []))) (hM : Maps.IsMap D)
    (hk : keyOf Tryd.prog 71 (hdV a c) = some kl) (hD : ∀ a c kl, keyOf Tryd.prog 71 (hdV a c) = some kl → Maps.has D kl = inE S a c) : Em w b n ((a, c) :: S) := by
  refine ⟨_, h, fun a' c' kl' hk' => ?_⟩
  by_cases e : kl' = kl
  · subst e
    have := lawH.inj hk hk'
    simp only [hdV, Value.agg.injEq, Array.mk.injEq, List.cons.injEq, Value.string.injEq, and_true] at this
    rw [Maps.has_put_same hM (lawH.key hk), this.1, this.2]; simp [inE]
  · rw [Maps.has_put_other e, hD a' c' kl' hk']
    have hne : ¬ (a = a' ∧ c = c') := fun h => e (by
      have h2 := hk'
      rw [← h.1, ← h.2, hk] at h2
      exact (Option.some.inj h2).symm)
    simp [inE, hne]
end Go.Proofs.YtmoafagemdnifaaDoor
