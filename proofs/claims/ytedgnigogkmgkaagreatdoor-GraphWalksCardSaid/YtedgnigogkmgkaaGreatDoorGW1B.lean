/- GraphWalks: what its loops hold. -/
import Derived.Test.YtedgnigogkmgkaaGreatDoorBai
import Derived.Test.YtedgnigogkmgkaaGreatDoorBak
namespace Go.Proofs.YtedgnigogkmgkaaGreatDoor
open Go.RowKit Go.Shelf Go.Lib
set_option maxRecDepth 100000 in
set_option maxHeartbeats 4000000 in
theorem target_any (i : Nat) (hi : i < 16) (pa : Option Addr) (na ca : Nat) (w : World) : Calls Tryz.prog 12 #[.int .i64 (i : Nat), .slice pa na ca] w fun e V => e = .returned (.agg (litT (nmW i) (.slice pa na ca))) ∧ Below w.heap.size w V := by
  obtain ⟨n, hn⟩ : ∃ n, w.heap.size = n := ⟨_, rfl⟩
  obtain ⟨W1, hW1⟩ : ∃ W1, w.alloc (.cells zuA 30) = W1 := ⟨_, rfl⟩
  obtain ⟨cs, hcs⟩ : ∃ cs, litT (nmW i) (.slice pa na ca) = cs := ⟨_, rfl⟩
  have hsz : cs.size = 33 := by rw [← hcs]; rfl
  have hone : ∀ (p : Nat) (v : Value), cs[p]? = some v → v.oneCell' = true := by
    rw [← hcs]
    intro p v h
    by_cases e : p = 2
    · subst e; cases h; rfl
    · by_cases e3 : p = 3
      · subst e3; cases h; rfl
      · have h1 := (litT_uv w (nmW i) [] nilV (.inl ⟨rfl, none, 0, rfl⟩)).on p v
        refine h1 ?_
        rw [← h]
        have hp : p < 33 := (Array.getElem?_eq_some_iff.1 h).1
        have key : p = 0 ∨ p = 1 ∨ p = 4 ∨ p = 5 ∨ p = 6 ∨ p = 7 ∨ p = 8 ∨ p = 9 ∨ p = 10 ∨ p = 11 ∨ p = 12 ∨ p = 13 ∨ p = 14 ∨ p = 15 ∨ p = 16 ∨ p = 17 ∨ p = 18 ∨ p = 19 ∨ p = 20 ∨ p = 21 ∨ p = 22 ∨ p = 23 ∨ p = 24 ∨ p = 25 ∨ p = 26 ∨ p = 27 ∨ p = 28 ∨ p = 29 ∨ p = 30 ∨ p = 31 ∨ p = 32 := by omega
        rcases key with rfl | rfl | rfl | rfl | rfl | rfl | rfl | rfl | rfl | rfl | rfl | rfl | rfl | rfl | rfl | rfl | rfl | rfl | rfl | rfl | rfl | rfl | rfl | rfl | rfl | rfl | rfl | rfl | rfl | rfl | rfl <;> rfl
  obtain ⟨X, hst, UX, bX⟩ := fresh_store (W := w) hsz hone zuA 30 rfl
  rw [hW1, hn] at hst
  rw [hn] at UX
  have hlv := loadVarU (UX.load hsz)
  have ha : (asAddr (.pointer (some ⟨n, 0, none⟩))).run Tryz.prog X = .ok ⟨n, 0, none⟩ X := rfl
  have hcs2 := hidP hcs
  unfold zuA at hW1
  unfold litT nmW ltrW tgt at hcs
  rw [hn]
  clear hone UX
  have hiI : (i : Int) < 16 := by omega
  go_enter Tryz.func12, Tryz.ntmps12
  go_wp2_with (first | rw [hn] | rw [hW1] | rw [hcs] | refine wpList_storeU rfl _ _ rfl _ rfl _ rfl hsz hst ?_)
  refine bodyPost_ret (v := .agg cs) (by simp [results, Tryz.results12, ha, hlv, Result.andThen]) rfl ?_
  exact ⟨by rw [hcs2.out], by rw [← hn]; exact bX⟩
/-- Where the adding stands: i units are there. -/
structure GI (B gb i : Nat) (w0 w : World) (S : GS) (L : UL) (us : List Nat) : Prop where
  g : Gs w S L
  hgb : S.gb = gb
  c : S.c ≤ 4 * i
  wk : Wk us i L
  lo : ∀ k, hasG S k → B ≤ k
  hB : w0.heap.size = B
  bl : Below B w0 w
theorem GI.below {B gb i : Nat} {w0 w v : World} {S : GS} {L : UL} {us : List Nat} (h : GI B gb i w0 w S L us) (b : Below w.heap.size w v) : GI B gb i w0 v S L us :=
  ⟨h.g.below b, h.hgb, h.c, h.wk, h.lo, h.hB, h.bl.trans (b.mono (by have := h.bl.size; have := h.hB; omega))⟩
theorem tolW_le (a b : ByteArray) : (tolW a b).length ≤ 2 := by
  unfold tolW
  split <;> simp
theorem GI.tl {B gb i : Nat} {w0 w : World} {S : GS} {L : UL} {us : List Nat} (h : GI B gb i w0 w S L us) : ∀ p ∈ L, (tolU p.2).length ≤ 2 := fun p hp => by
  obtain ⟨j, _, _, e⟩ := h.wk.tol p hp
  rw [e]; exact tolW_le _ _
theorem GI.add {B gb i : Nat} {w0 w v : World} {S S' : GS} {L : UL} {us : List Nat} {cs : Array Value} {wa : Value} (h : GI B gb i w0 w S L us) (hn : isN (nmW (Tt us i)) = true) (hG : Gs v S' ((cs, unT (nmW i) [nmW (Tt us i)] wa) :: L)) (hgo : GsGo S w S' v (2 * (tolU (unT (nmW i) [nmW (Tt us i)] wa)).length)) : GI B gb (i + 1) w0 v S' ((cs, unT (nmW i) [nmW (Tt us i)] wa) :: L) us := by
  have hs := h.bl.size
  have hB := h.hB
  have ht : (tolU (unT (nmW i) [nmW (Tt us i)] wa)).length ≤ 2 := by rw [tolT _ _ _ hn]; exact tolW_le _ _
  refine ⟨hG, hgo.gb.trans h.hgb, by have := hgo.c; have := h.c; omega, h.wk.add hn, fun k hk => ?_, h.hB, h.bl.trans (hgo.mv.toBelow (by omega) (fun k hk q => by have := h.lo k q; omega))⟩
  rcases hgo.gr k hk with r | r
  · exact h.lo k r
  · omega
theorem Wk.no {us : List Nat} {i : Nat} {L : UL} (h : Wk us i L) (hi : i < 16) : lku L (nmW i) = none := by
  cases q : lku L (nmW i) with
  | none => rfl
  | some r =>
    obtain ⟨j, h1, h2⟩ := (h.mem (nmW i)).1 (by unfold Dom; rw [q]; rfl)
    have := nmW_inj (by omega) hi h2
    omega
/-- How far the way from r has been gone: m places are marked. -/
structure IB (D m r : Nat) (us : List Nat) (wD wr : World) (b : Nat → Bool) : Prop where
  iff : ∀ j, b j = true ↔ ∃ k, k < m ∧ itN (Tt us) k r = j
  cell : ∀ j, j < 16 → wr.cell? ⟨D, j, none⟩ = some (.bool (b j))
  fro : ∀ j, wr.frozen? ⟨D, j, none⟩ = false
  mv : Mv (fun k => k = D) wD wr
def falseAt (D : Nat) (w : World) (j : Nat) : Bool := match w.cell? ⟨D, j, none⟩ with
  | some (.bool false) => true
  | _ => false
def msr (D : Nat) (w : World) : Nat := ((List.range 16).filter (falseAt D w)).length
theorem IB.msr {D m r : Nat} {us : List Nat} {wD wr : World} {b : Nat → Bool} (h : IB D m r us wD wr b) : YtedgnigogkmgkaaGreatDoor.msr D wr = ((List.range 16).filter fun j => !b j).length := by
  unfold YtedgnigogkmgkaaGreatDoor.msr
  congr 1
  refine List.filter_congr fun j hj => ?_
  unfold falseAt
  rw [h.cell j (List.mem_range.1 hj)]
  cases b j <;> rfl
theorem filt_le {f g : Nat → Bool} (h : ∀ j, f j = true → g j = true) : ∀ l : List Nat, (l.filter f).length ≤ (l.filter g).length
  | [] => Nat.le_refl _
  | x :: l => by
    have ih := filt_le h l
    rw [List.filter_cons, List.filter_cons]
    cases hf : f x with
    | true => rw [h x hf]; simp only [if_true, List.length_cons]; omega
    | false => cases g x <;> simp only [Bool.false_eq_true, if_false, if_true, List.length_cons] <;> omega
theorem filt_lt {f g : Nat → Bool} (h : ∀ j, f j = true → g j = true) {a : Nat} (ha : g a = true) (na : f a = false) : ∀ l : List Nat, a ∈ l → (l.filter f).length < (l.filter g).length
  | x :: l, hm => by
    have hle := filt_le h l
    rw [List.filter_cons, List.filter_cons]
    by_cases e : x = a
    · subst e
      rw [ha, na]
      simp only [Bool.false_eq_true, if_false, if_true, List.length_cons]
      omega
    · have ih := filt_lt h ha na l ((List.mem_cons.1 hm).elim (fun q => absurd q.symm e) id)
      cases hf : f x with
      | true => rw [h x hf]; simp only [if_true, List.length_cons]; omega
      | false => cases g x <;> simp only [Bool.false_eq_true, if_false, if_true, List.length_cons] <;> omega
theorem IB.step {D m r : Nat} {us : List Nat} {wD wr : World} {b : Nat → Bool} (h : IB D m r us wD wr b) (ha : itN (Tt us) m r < 16) (hb : b (itN (Tt us) m r) = false) :
    IB D (m + 1) r us wD (wr.setCell ⟨D, itN (Tt us) m r, none⟩ (.bool true)) (fun j => b j || decide (j = itN (Tt us) m r)) ∧ YtedgnigogkmgkaaGreatDoor.msr D (wr.setCell ⟨D, itN (Tt us) m r, none⟩ (.bool true)) < YtedgnigogkmgkaaGreatDoor.msr D wr := by
  have h1 : IB D (m + 1) r us wD (wr.setCell ⟨D, itN (Tt us) m r, none⟩ (.bool true)) (fun j => b j || decide (j = itN (Tt us) m r)) := by
    refine ⟨fun j => ?_, fun j hj => ?_, fun j => by rw [World.frozen?_setCell]; exact h.fro j, h.mv.setc (p := ⟨D, itN (Tt us) m r, none⟩) (.inl rfl) _⟩
    · rw [Bool.or_eq_true, h.iff j, decide_eq_true_iff]
      constructor
      · rintro (⟨k, h1, h2⟩ | rfl)
        · exact ⟨k, by omega, h2⟩
        · exact ⟨m, by omega, rfl⟩
      · rintro ⟨k, h1, h2⟩
        rcases Nat.lt_or_ge k m with q | q
        · exact .inl ⟨k, q, h2⟩
        · obtain rfl : k = m := by omega
          exact .inr h2.symm
    · by_cases e : j = itN (Tt us) m r
      · subst e
        rw [decide_eq_true rfl, Bool.or_true]
        exact World.cell?_setCell_same' _ _ _ (by rw [h.cell _ ha]; rfl)
      · rw [decide_eq_false e, Bool.or_false, World.cell?_setCell_other _ _ _ _ (by simp; try omega)]
        exact h.cell j hj
  refine ⟨h1, ?_⟩
  rw [h1.msr, h.msr]
  exact filt_lt (fun j q => by cases hj : b j with
    | false => rfl
    | true => rw [hj] at q; cases q) (a := itN (Tt us) m r) (by rw [hb]; rfl) (by rw [decide_eq_true rfl, Bool.or_true]; rfl) _ (List.mem_range.2 ha)
theorem IB.done {D m r : Nat} {us : List Nat} {wD wr : World} {b : Nat → Bool} (h : IB D m r us wD wr b) (hb : b (itN (Tt us) m r) = true) : Inb us r b := by
  obtain ⟨k, hk, e⟩ := (h.iff _).1 hb
  refine ⟨fun j => (h.iff j).trans ⟨fun ⟨k, _, q⟩ => ⟨k, q⟩, ?_⟩⟩
  rintro ⟨i, rfl⟩
  exact itN_closed hk e i
theorem mv_of_below {N : Nat} {A B : World} (h : Below N A B) : Mv (fun k => N ≤ k) A B := ⟨h.os, h.tape, h.output, h.size, fun b _ he => h.block b (by omega)⟩
/-- All that lies ahead of block D stays. -/
theorem GI.upto {B gb i D : Nat} {w0 w v : World} {S : GS} {L : UL} {us : List Nat} (h : GI B gb i w0 w S L us) (hB : B ≤ D) (hG : ∀ k, hasG S k → k < D) (hU : ∀ p ∈ L, ∀ b, ubk p.1 b → b < D) (m : Below D w v) : GI B gb i w0 v S L us :=
  ⟨h.g.mv (mv_of_below m) (fun k hk q => by have := hG k hk; omega) (fun p hp b hb q => by have := hU p hp b hb; omega), h.hgb, h.c, h.wk, h.lo, h.hB, h.bl.trans (m.mono hB)⟩
/-- Where the two rows of names stand. -/
structure LW (D : Nat) (w5 wr : World) (bb : Nat → Bool) (j : Nat) (vw vg : Value) : Prop where
  ws : NS wr vw (pick bb j)
  gs : NS wr vg (pick (fun k => !bb k) j)
  wb : ∀ k, nb vw = some k → D < k
  gb : ∀ k, nb vg = some k → D < k
  ne : ∀ k, nb vw = some k → nb vg ≠ some k
  bl : Below (D + 1) w5 wr
theorem LW.below {D : Nat} {w5 wr v : World} {bb : Nat → Bool} {j : Nat} {vw vg : Value} (h : LW D w5 wr bb j vw vg) (hD : D < w5.heap.size) (b : Below wr.heap.size wr v) : LW D w5 v bb j vw vg :=
  ⟨h.ws.mv (E := fun _ => False) (Mv.below b) (fun _ _ q => q), h.gs.mv (E := fun _ => False) (Mv.below b) (fun _ _ q => q), h.wb, h.gb, h.ne, h.bl.trans (b.mono (by have := h.bl.size; omega))⟩
theorem LW.want {D : Nat} {w5 wr W : World} {bb : Nat → Bool} {j : Nat} {vw vg v2 : Value} (h : LW D w5 wr bb j vw vg) (hD : D < w5.heap.size) (hb : bb j = true) (hns : NS W v2 (pick bb j ++ [nmW j])) (m : Mv (fun k => nb vw = some k) wr W) (a : nb v2 = nb vw ∨ ∃ k, nb v2 = some k ∧ wr.heap.size ≤ k) : LW D w5 W bb (j + 1) v2 vg := by
  have hz := h.bl.size
  refine ⟨by rw [pick_succ, if_pos hb]; exact hns, by rw [pick_succ, if_neg (by rw [hb]; decide)]; exact h.gs.mv m (fun k hk q => h.ne k q hk), fun k hk => ?_, h.gb, fun k hk q => ?_, h.bl.trans (m.toBelow (by omega) (fun k hk q => by have := h.wb k q; omega))⟩
  · rcases a with e | ⟨i, e, hi⟩
    · exact h.wb k (e ▸ hk)
    · rw [hk] at e; injection e with e; omega
  · rcases a with e | ⟨i, e, hi⟩
    · exact h.ne k (e ▸ hk) q
    · rw [hk] at e; injection e with e; have := h.gs.lt q; omega
theorem LW.gone {D : Nat} {w5 wr W : World} {bb : Nat → Bool} {j : Nat} {vw vg v2 : Value} (h : LW D w5 wr bb j vw vg) (hD : D < w5.heap.size) (hb : bb j = false) (hns : NS W v2 (pick (fun k => !bb k) j ++ [nmW j])) (m : Mv (fun k => nb vg = some k) wr W) (a : nb v2 = nb vg ∨ ∃ k, nb v2 = some k ∧ wr.heap.size ≤ k) : LW D w5 W bb (j + 1) vw v2 := by
  have hz := h.bl.size
  refine ⟨by rw [pick_succ, if_neg (by rw [hb]; decide)]; exact h.ws.mv m (fun k hk q => h.ne k hk q), by rw [pick_succ, if_pos (by rw [hb]; rfl)]; exact hns, h.wb, fun k hk => ?_, fun k hk q => ?_, h.bl.trans (m.toBelow (by omega) (fun k hk q => by have := h.gb k q; omega))⟩
  · rcases a with e | ⟨i, e, hi⟩
    · exact h.gb k (e ▸ hk)
    · rw [hk] at e; injection e with e; omega
  · rcases a with e | ⟨i, e, hi⟩
    · exact h.ne k hk (e ▸ q)
    · rw [q] at e; injection e with e; have := h.ws.lt hk; omega
theorem nbd_is : isN nbd = true := by decide +kernel
/-- What is not reached goes. -/
theorem notIn_pick {n : Nat} {bb : Nat → Bool} {X : List ByteArray} (hn : n ≤ 16) (hX : X.Perm (pick bb n)) : notIn X (pick (fun _ => true) n) = pick (fun k => !bb k) n := by
  unfold notIn pick
  rw [List.filter_map, List.filter_filter]
  congr 1
  refine List.filter_congr fun j hj => ?_
  have hj := List.mem_range.1 hj
  show (!memB (nmW j) X && true) = !bb j
  rw [Bool.and_true]
  congr 1
  cases hb : bb j with
  | true => exact memB_t (hX.mem_iff.2 (pick_mem.2 ⟨j, hj, hb, rfl⟩))
  | false =>
    refine memB_f fun q => ?_
    obtain ⟨i, h1, h2, h3⟩ := pick_mem.1 (hX.mem_iff.1 q)
    have := nmW_inj (by omega) (by omega) h3
    subst this
    rw [hb] at h2; cases h2
/-- Whether a unit is still there. -/
theorem less_has {us : List Nat} {n : Nat} {L : UL} {bb : Nat → Bool} (h : Wk us n L) (hn : n ≤ 16) {j : Nat} (hj : j < n) : (lku (lessU L (pick (fun k => !bb k) n)) (nmW j)).isSome = bb j := by
  cases hb : bb j with
  | true =>
    rw [lku_less (fun q => by
      obtain ⟨i, h1, h2, h3⟩ := pick_mem.1 q
      have := nmW_inj (by omega) (by omega) h3
      subst this
      rw [hb] at h2; cases h2)]
    exact (h.mem _).2 ⟨j, hj, rfl⟩
  | false =>
    cases q : lku (lessU L (pick (fun k => !bb k) n)) (nmW j) with
    | none => rfl
    | some p =>
      obtain ⟨h1, h2⟩ := lku_mem q
      have h3 := (List.mem_filter.1 h1).2
      rw [h2, memB_t (pick_mem.2 ⟨j, hj, by rw [hb]; rfl, rfl⟩)] at h3
      cases h3
end Go.Proofs.YtedgnigogkmgkaaGreatDoor
