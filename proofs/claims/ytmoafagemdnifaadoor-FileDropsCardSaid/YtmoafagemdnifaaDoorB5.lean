/- The contract of package line's Lines. -/
import Derived.Test.YtmoafagemdnifaaDoorB4
import Derived.Maps.OwnIn
namespace Go.Proofs.YtmoafagemdnifaaDoor
open Go.RowKit Go.Shelf Lin
attribute [local go_sem] Oper.semAt_some
theorem whl_len : ∀ (r : List L) (n b : Nat) (x : L), (whl n b x r).length ≤ r.length + 1
  | [], n, b, x => by unfold whl; split <;> simp
  | p :: r, n, b, x => by
    unfold whl
    split
    · have := whl_len r (n + 1) 0 x; simp only [List.length_cons]; omega
    · split
      · have := whl_len r (n + 1) (if b = 0 then n + 1 else b) (x ++ Lib.trimSuffix p [92] ++ [32]); simp only [List.length_cons]; omega
      · have := whl_len r (n + 1) 0 []; simp only [List.length_cons]; omega
theorem whl_big : ∀ (r : List L) (n b : Nat) (x : L) (p : Nat × L), p ∈ whl n b x r → p.2.length ≤ x.length + tot r
  | [], n, b, x, p, h => by
    unfold whl at h
    split at h
    · simp at h
    · simp at h; rw [h]; simp
  | q :: r, n, b, x, p, h => by
    unfold whl at h
    split at h
    · have := whl_big r _ _ _ p h; simp only [tot]; omega
    · split at h
      · rename_i hq
        have := whl_big r _ _ _ p h
        have h2 := trimS_len hq
        simp only [List.length_append, List.length_cons, List.length_nil] at this
        simp only [tot]; omega
      · rcases List.mem_cons.1 h with rfl | h
        · simp only [List.length_append, tot]; omega
        · have := whl_big r _ _ _ p h; simp only [List.length_nil] at this; simp only [tot]; omega
/-- What stood ahead. -/
def pre (acc : List Ln) : Res → Res
  | .ok l => .ok (acc ++ l)
  | .error e => .error e
theorem pre_nil (r : Res) : pre [] r = r := by cases r <;> rfl
theorem pre_long (acc : List Ln) (n : Nat) (t : L) (r : List (Nat × L)) (h : 400 < t.length) : pre acc (lnsW ((n, t) :: r)) = .error (n, 51) := by simp [lnsW, h, pre]
theorem pre_bad (acc : List Ln) (n : Nat) (t : L) (r : List (Nat × L)) (h : ¬ 400 < t.length) (hp : prs t = none) : pre acc (lnsW ((n, t) :: r)) = .error (n, 50) := by simp [lnsW, h, hp, pre]
theorem pre_good (acc : List Ln) (n : Nat) (t : L) (r : List (Nat × L)) (h : ¬ 400 < t.length) (p : Kv) (hp : prs t = some p) : pre acc (lnsW ((n, t) :: r)) = pre (acc ++ [(p.1, p.2.1, p.2.2, n)]) (lnsW r) := by
  simp only [lnsW, if_neg h, hp]
  cases lnsW r <;> simp [pre]
def lnC (x : Ln) : List Value := [.int .i64 x.1, .string ⟨x.2.1.toArray⟩, .string ⟨x.2.2.1.toArray⟩, .int .i64 x.2.2.2]
def lnsC (l : List Ln) : List Value := l.flatMap lnC
theorem lnsC_snoc (l : List Ln) (x : Ln) : lnsC (l ++ [x]) = lnsC l ++ lnC x := by simp [lnsC]
/-- What Lines tells. -/
def LinesP (r : Res) (w : World) (e : Ending) (w' : World) : Prop := match r with
  | .ok l => ∃ v, e = .returned (.tuple #[v, .int .i64 0, .int .i64 0]) ∧ w'.ownsRow w.heap.size 60 4 v l.length (lnsC l) ∧ Below w.heap.size w w'
  | .error (n, k) => e = .returned (.tuple #[.slice none 0 0, .int .i64 n, .int .i64 k]) ∧ Below w.heap.size w w'
theorem infoL : (Tryd.prog.info? 60).map (fun i => (i.zero, i.size, i.bytes)) = some (some (.agg #[.int .i64 0, .string ⟨#[]⟩, .string ⟨#[]⟩, .int .i64 0]), 4, 48) := by kernel_rfl
theorem whole_any (s : ByteArray) (w : World) :
    Calls Tryd.prog 35 #[.string s] w fun e w' => e = .returned (.func (.func 46) #[] #[.pointer (some ⟨w.heap.size, 0, none⟩)]) ∧ w' = w.alloc (.cells #[.string s] 9) := by
  go_enter Tryd.func35, Tryd.ntmps35
  go_wp2_with fail
  go_ret
  exact ⟨rfl, rfl⟩
/-- The invariant of the loop in Lines: b is the first of its four boxes. -/
def LI (b : Nat) (R : Res) (rest : List (Nat × L)) (E : Nat → Prop) (W : World) : Prop :=
  ∃ (v : Value) (acc : List Ln), ((∀ k, E k ↔ ((b ≤ k ∧ k < b + 4) ∨ v.ownBlock = some k)) ∧ Hid (R = pre acc (lnsW rest)) ∧ acc.length + rest.length ≤ 5000 ∧ ∀ p ∈ rest, p.2.length ≤ 6000) ∧
    (Cl b (.slice none 0 0) W ∧ Cl (b + 1) (.int .i64 0) W ∧ Cl (b + 1 + 1) (.int .i64 0) W ∧ Cl (b + 1 + 1 + 1) v W) ∧ W.ownsRow (b + 4) 60 4 v acc.length (lnsC acc)
def LX (b : Nat) (R : Res) (c : Code) (E : Nat → Prop) (W : World) : Prop :=
  ∃ (n : Nat) (k : Int), (c = Code.ret ∧ (∀ k, E k ↔ (b ≤ k ∧ k < b + 4)) ∧ Hid (R = .error (n, k))) ∧ Cl b (.slice none 0 0) W ∧ Cl (b + 1) (.int .i64 n) W ∧ Cl (b + 1 + 1) (.int .i64 k) W ∧ b + 4 ≤ W.heap.size
theorem LI.ter {b C : Nat} {R : Res} : Ter C (LI b R) := by
  refine ⟨fun s E W V h m => ?_, fun s E W h k hk => ?_⟩
  · obtain ⟨v, acc, hp, ⟨c0, c1, c2, c3⟩, ho⟩ := h
    have hn : ∀ k, E k → ¬ (¬ E k ∧ C ≤ k) := fun k hk h => h.1 hk
    have hi : ∀ k, b ≤ k → k < b + 4 → E k := fun k h1 h2 => (hp.1 k).2 (.inl ⟨h1, h2⟩)
    exact ⟨v, acc, hp, ⟨c0.mv m (hn _ (hi _ (by omega) (by omega))), c1.mv m (hn _ (hi _ (by omega) (by omega))), c2.mv m (hn _ (hi _ (by omega) (by omega))), c3.mv m (hn _ (hi _ (by omega) (by omega)))⟩, own_mv ho m (fun g hg => hn g ((hp.1 g).2 (.inr hg)))⟩
  · obtain ⟨v, acc, hp, ⟨c0, c1, c2, c3⟩, ho⟩ := h
    rcases (hp.1 k).1 hk with q | q
    · have := c3.lt; omega
    · exact (ho.lt k q).2
theorem LX.ter {b C : Nat} {R : Res} : Ter C (LX b R) := by
  refine ⟨fun s E W V h m => ?_, fun s E W h k hk => ?_⟩
  · obtain ⟨n, k, hp, c0, c1, c2, hz⟩ := h
    have hn : ∀ k, E k → ¬ (¬ E k ∧ C ≤ k) := fun k hk h => h.1 hk
    have hi : ∀ k, b ≤ k → k < b + 4 → E k := fun k h1 h2 => (hp.2.1 k).2 ⟨h1, h2⟩
    exact ⟨n, k, hp, c0.mv m (hn _ (hi _ (by omega) (by omega))), c1.mv m (hn _ (hi _ (by omega) (by omega))), c2.mv m (hn _ (hi _ (by omega) (by omega))), Nat.le_trans hz m.size⟩
  · obtain ⟨n, j, hp, c0, c1, c2, hz⟩ := h
    have := (hp.2.1 k).1 hk; omega
theorem pre_ok {acc : List Ln} {R : Res} (h : R = pre acc (lnsW [])) : R = .ok acc := by rw [h]; simp [lnsW, pre]
/-- The results are set, the round is left. -/
theorem LI.stop {b : Nat} {R : Res} {rest : List (Nat × L)} {E : Nat → Prop} {W U : World} (h : LI b R rest E W) (m : Mv (fun _ => False) W U) (n : Nat) (k : Int) (hR : Hid (R = .error (n, k))) :
    Mv E W (((U.setCell ⟨b, 0, none⟩ (.slice none 0 0)).setCell ⟨b + 1, 0, none⟩ (.int .i64 n)).setCell ⟨b + 1 + 1, 0, none⟩ (.int .i64 k)) ∧ ∃ E', Gr E W E' ∧ LX b R Code.ret E' (((U.setCell ⟨b, 0, none⟩ (.slice none 0 0)).setCell ⟨b + 1, 0, none⟩ (.int .i64 n)).setCell ⟨b + 1 + 1, 0, none⟩ (.int .i64 k)) := by
  obtain ⟨v, acc, hp, ⟨c0, c1, c2, c3⟩, ho⟩ := h
  have hi : ∀ k, b ≤ k → k < b + 4 → E k := fun k h1 h2 => (hp.1 k).2 (.inl ⟨h1, h2⟩)
  have d0 := c0.mv m (fun h => h)
  have d1 := c1.mv m (fun h => h)
  have d2 := c2.mv m (fun h => h)
  have d3 := (c3.mv m (fun h => h)).lt
  have mE : Mv E W U := m.mono (fun _ _ h => h.elim)
  refine ⟨((mE.setc (p := ⟨b, 0, none⟩) (.inl (hi _ (by simp) (by simp))) _).setc (p := ⟨b + 1, 0, none⟩) (.inl (hi _ (by simp) (by simp))) _).setc (p := ⟨b + 1 + 1, 0, none⟩) (.inl (hi _ (by simp; omega) (by simp))) _, fun k => b ≤ k ∧ k < b + 4, fun k hk => .inl ((hp.1 k).2 (.inl hk)), n, k, ⟨rfl, fun _ => Iff.rfl, hR⟩, ?_, ?_, ?_, by simp; omega⟩
  · exact ((d0.set _).oth (by omega) _).oth (by omega) _
  · exact ((d1.oth (by omega) _).set _).oth (by omega) _
  · exact ((d2.oth (by omega) _).oth (by omega) _).set _
/-- A line more. -/
theorem LI.more {b : Nat} {R : Res} {rest : List (Nat × L)} {E : Nat → Prop} {W U4 w4 : World} {v v' : Value} {acc : List Ln} {cs : List Value} (hE : ∀ k, E k ↔ ((b ≤ k ∧ k < b + 4) ∨ v.ownBlock = some k)) (c0 : Cl b (.slice none 0 0) W) (c1 : Cl (b + 1) (.int .i64 0) W) (c2 : Cl (b + 1 + 1) (.int .i64 0) W) (c3 : Cl (b + 1 + 1 + 1) v W)
    (ho : W.ownsRow (b + 4) 60 4 v acc.length (lnsC acc)) (mU : ∀ F : Nat → Prop, Mv F W U4) (hgrow : U4.grownBy w4 v.ownBlock) (hown' : w4.ownsRow (b + 4) 60 4 v' (acc.length + 1) (lnsC acc ++ cs)) (hat : v'.ownBlock = v.ownBlock ∨ v'.ownBlock = some U4.heap.size)
    (x : Ln) (hx : Hid (lnsC (acc ++ [x]) = lnsC acc ++ cs)) (hacc : Hid (R = pre (acc ++ [x]) (lnsW rest))) (hal : acc.length + 1 + rest.length ≤ 5000) (hbg : ∀ p ∈ rest, p.2.length ≤ 6000) :
    Cl (b + 1 + 1 + 1) v w4 ∧ Mv E W (w4.setCell ⟨b + 1 + 1 + 1, 0, none⟩ v') ∧ ∃ E', Gr E W E' ∧ LI b R rest E' (w4.setCell ⟨b + 1 + 1 + 1, 0, none⟩ v') := by
  have hnv : ∀ k, v.ownBlock = some k → b + 4 ≤ k := fun k hk => (ho.lt k hk).1
  have mg : Mv (fun k => v.ownBlock = some k) W w4 := (mU _).grown hgrow (fun k e => .inl e)
  have nb : ∀ k, k < b + 4 → ¬ v.ownBlock = some k := fun k hk e => by have := hnv k e; omega
  have d0 := c0.mv mg (nb _ (by omega))
  have d1 := c1.mv mg (nb _ (by omega))
  have d2 := c2.mv mg (nb _ (by omega))
  have d3 := c3.mv mg (nb _ (by omega))
  have hv' : ∀ k, v'.ownBlock = some k → v.ownBlock = some k ∨ W.heap.size ≤ k := fun k e => by
    rcases hat with q | q
    · exact .inl (q ▸ e)
    · rw [q] at e
      have := Option.some.inj e
      have := (mU (fun _ => False)).size
      exact .inr (by omega)
  have hb4 : ∀ k, v'.ownBlock = some k → b + 4 ≤ k := fun k hk => (hown'.lt k hk).1
  refine ⟨d3, (mg.mono (fun k _ e => (hE k).2 (.inr e))).setc (p := ⟨b + 1 + 1 + 1, 0, none⟩) (.inl ((hE _).2 (.inl ⟨by simp; omega, by simp⟩))) _, fun k => (b ≤ k ∧ k < b + 4) ∨ v'.ownBlock = some k, fun k hk => ?_, v', acc ++ [x], ⟨fun _ => Iff.rfl, hacc, by rw [List.length_append]; exact hal, hbg⟩, ⟨d0.oth (by omega) _, d1.oth (by omega) _, d2.oth (by omega) _, d3.set _⟩, ?_⟩
  · rcases hk with hk | hk
    · exact .inl ((hE k).2 (.inl hk))
    · rcases hv' k hk with q | q
      · exact .inl ((hE k).2 (.inr q))
      · exact .inr q
  · rw [hx.out, List.length_append]
    exact own_mv hown' (E := fun k => k = b + 1 + 1 + 1) (Mv.set1 (E := fun k => k = b + 1 + 1 + 1) rfl _) (fun g hg e => by have := hb4 g hg; omega)
end Go.Proofs.YtmoafagemdnifaaDoor
