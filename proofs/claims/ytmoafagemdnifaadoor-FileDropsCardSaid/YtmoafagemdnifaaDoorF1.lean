/- Settings in memory; the rows that slices.Backward makes of settings and of files. -/
import Derived.Test.YtmoafagemdnifaaDoorZ0
namespace Go.Proofs.YtmoafagemdnifaaDoor
open Go.RowKit Go.Shelf
attribute [local go_sem] Oper.semAt_some
/-- A setting: its section, key, value and number. -/
structure St where
  s : ByteArray
  k : ByteArray
  v : ByteArray
  n : Int
def St.val (x : St) : Value := .agg #[.string x.s, .string x.k, .string x.v, .int .i64 x.n]
def stC (x : St) : List Value := [.string x.s, .string x.k, .string x.v, .int .i64 x.n]
def stsC (l : List St) : List Value := l.flatMap stC
theorem stsC_snoc (l : List St) (x : St) : stsC (l ++ [x]) = stsC l ++ stC x := by simp [stsC]
/-- The cells of one setting. -/
structure St1 (w : World) (g o : Nat) (x : St) : Prop where
  c0 : w.cell? ⟨g, o, none⟩ = some (.string x.s)
  c1 : w.cell? ⟨g, o + 1, none⟩ = some (.string x.k)
  c2 : w.cell? ⟨g, o + 2, none⟩ = some (.string x.v)
  c3 : w.cell? ⟨g, o + 3, none⟩ = some (.int .i64 x.n)
theorem St1.mv {E : Nat → Prop} {W V : World} {g o : Nat} {x : St} (h : St1 W g o x) (m : Mv E W V) (hE : ¬ E g) : St1 V g o x := ⟨m.cell hE h.c0, m.cell hE h.c1, m.cell hE h.c2, m.cell hE h.c3⟩
/-- The settings l lie in block g from o on. -/
def StAt (w : World) (g o : Nat) (l : List St) : Prop := ∀ (j : Nat) (x : St), l[j]? = some x → St1 w g (o + j * 4) x
/-- The value is a slice that holds the settings l, outside E. -/
def SlIs (E : Nat → Prop) (w : World) (v : Value) (l : List St) : Prop := ∃ a cap, v = .slice a l.length cap ∧ (0 < l.length → ∃ g o, a = some ⟨g, o, none⟩ ∧ ¬ E g ∧ StAt w g o l)
theorem SlIs.mv {E E' : Nat → Prop} {W V : World} {v : Value} {l : List St} (h : SlIs E W v l) (m : Mv E W V) (gr : Gr E W E') : SlIs E' V v l := by
  obtain ⟨a, cap, hv, hl⟩ := h
  refine ⟨a, cap, hv, fun h0 => ?_⟩
  obtain ⟨g, o, ha, hg, hs⟩ := hl h0
  have hgl : g < W.heap.size := cell_lt (hs 0 _ (List.getElem?_eq_getElem h0)).c0
  exact ⟨g, o, ha, gr.free hgl hg, fun j x hx => (hs j x hx).mv m hg⟩
theorem SlIs.nil (E : Nat → Prop) (w : World) : SlIs E w (.slice none 0 0) [] := ⟨none, 0, rfl, fun h => absurd h (by decide)⟩
def encX (p : Nat × St) : Array Value := #[.int .i64 p.1, p.2.val]
/-- The first k with their places, from the end on. -/
def bk {α : Type} (l : List α) : Nat → List (Nat × α)
  | 0 => []
  | k + 1 => match l[k]? with
    | some x => (k, x) :: bk l k
    | none => bk l k
theorem bk_succ {α : Type} {l : List α} {k : Nat} {x : α} (h : l[k]? = some x) : bk l (k + 1) = (k, x) :: bk l k := by simp [bk, h]
theorem bk_snd {α : Type} (l : List α) : ∀ k, (bk l k).map Prod.snd = (l.take k).reverse
  | 0 => by simp [bk]
  | k + 1 => by
    rw [List.take_add_one]
    cases h : l[k]? with
    | none => simp [bk, h, bk_snd l k]
    | some x => simp [bk, h, bk_snd l k]
theorem bk_all {α : Type} (l : List α) : (bk l l.length).map Prod.snd = l.reverse := by rw [bk_snd, List.take_length]
set_option maxRecDepth 100000 in
set_option maxHeartbeats 2000000 in
theorem backS_row (l : List St) (b : Nat) (v : Value) (E : Nat → Prop) (W : World) (cv : W.cell? ⟨b, 0, none⟩ = some v) (eb : ¬ E b) (hs : SlIs E W v l) (hl : l.length ≤ 1000000000) :
    Row Tryd.prog 41 #[.pointer (some ⟨b, 0, none⟩)] encX (bk l l.length) E W := by
  intro u J Jx E1 V m g hJ hJx hY h0
  have d1 := m.cell eb cv
  have f1 : ¬ E1 b := g.free (cell_lt cv) eb
  obtain ⟨a, cap, rfl, hs1⟩ := hs.mv m g
  obtain ⟨n, hn⟩ : ∃ n, l.length = n := ⟨_, rfl⟩
  rw [hn] at d1 hs1 h0 hl
  have hN : Hid (l.length = n) := hn
  clear hn hs cv
  refine (callsIn_wide (n := 5)).1 ?_
  refine callsIn_of_wp Tryd.func41 rfl trivial ?_ rfl
  simp only [Tryd.ntmps41, List.size_toArray, List.length_cons, List.length_nil, Nat.reduceAdd, Nat.reduceSub, Array.replicate_succ, Array.replicate_zero, List.push_toArray, List.append_toArray, List.nil_append, List.cons_append]
  gi_wp2
  gi_loopw [3] (fun i wr => ∃ (k : Nat) (z : Int) (E2 : Nat → Prop), k ≤ n ∧ z + 1 = k ∧ i = .int .i64 z ∧ J (bk l k) E2 wr ∧ Mv E1 V wr ∧ Gr E1 V E2) (fun i _ => (intOf i + 1).toNat)
  case atStart => exact ⟨n, _, E1, Nat.le_refl _, by omega, rfl, h0, Mv.refl _ _, Gr.refl _ _⟩
  case round =>
    obtain ⟨k, z, E2, k0, hz, rfl, hj, hm, hg⟩ := hrel
    have d3 := hm.cell f1 d1
    cases k with
    | succ j =>
      obtain rfl : z = (j : Int) := by omega
      obtain ⟨x, hx⟩ : ∃ x, l[j]? = some x := ⟨_, List.getElem?_eq_getElem (by rw [hN.out]; omega)⟩
      rw [bk_succ hx] at hj
      obtain ⟨gb, o, rfl, hgb, hst⟩ := hs1 (by omega)
      obtain ⟨p0, p1, p2, p3⟩ := (hst j x hx).mv hm hgb
      obtain ⟨fn, tmps, assign, body, hy, hR⟩ := hY (j, x) _ E2 wr hj
      dsimp only [encX, St.val] at hy
      have hjn : (j : Int) < (n : Int) := by omega
      clear hz hst hx hs1
      gi_wp2
      refine (wide_round' hR).mono ?_
      rintro e W3 ⟨m3, (⟨rfl, E3, g3, hj3⟩ | ⟨rfl, E3, g3, hj3⟩)⟩
      · gi_wp2
        exact ⟨⟨j, _, E3, by omega, by omega, rfl, hj3, hm.trans hg m3, hg.trans hm.size g3⟩, by simp [intOf]⟩
      · gi_wp2
        refine bodyPost_ret (results_none rfl _ _ _) rfl ?_
        exact ⟨⟨_, rfl⟩, hm.trans hg m3, .inr ⟨E3, hg.trans hm.size g3, hj3⟩⟩
    | zero =>
      obtain rfl : z = -1 := by omega
      gi_wp2
      go_end0
      exact ⟨⟨_, rfl⟩, hm, .inl ⟨E2, hg, hj⟩⟩
end Go.Proofs.YtmoafagemdnifaaDoor
