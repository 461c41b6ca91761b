/- slices.SortFunc of trees by their turns. -/
import Derived.Test.YtjcdjkfnmobhkaaGreatQdCB
import Derived.Test.YtjcdjkfnmobhkaaGreatShelfQ
namespace Go.Proofs.YtjcdjkfnmobhkaaGreat.Qd
open Go.RowKit Go.Shelf Go.Lib
attribute [local go_sem] Oper.semAt_some
abbrev R3 := El × Int × Option Nat
def toR (x : R3) : Rec := ⟨x.1, x.2.1, x.2.2⟩
def ofR (x : Rec) : R3 := (x.v, x.t, x.p)
def enc3 (x : R3) : List Value := [vc0 x.1, vc1 x.1, vc2 x.1, .int .i64 x.2.1, ptrV x.2.2]
theorem toR_ofR (l : List Rec) : (l.map ofR).map toR = l := by
  induction l with
  | nil => rfl
  | cons x l ih => simp only [List.map_cons, ih]; rfl
theorem flat_get [Inhabited El] (d : Array R3) {t : Nat} (h : t < d.size * 5) : (flat (d.toList.map toR))[t]? = some ((Go.Sort.flatK enc3 5 d)[t]!) := by
  rw [Go.Sort.get_flatK _ _ _ _ h]
  have hj : t / 5 < d.size := by omega
  have hx : (d.toList.map toR)[t / 5]? = some (toR d[t / 5]!) := by
    rw [List.getElem?_map, Array.getElem?_toList, getElem!_pos d (t / 5) hj, Array.getElem?_eq_getElem hj]; rfl
  obtain ⟨h0, h1, h2⟩ := flat_at _ _ _ hx
  obtain ⟨x, e⟩ : ∃ x, d[t / 5]! = x := ⟨_, rfl⟩
  rw [e] at h0 h1 h2 ⊢
  have hm : t % 5 = 0 ∨ t % 5 = 1 ∨ t % 5 = 2 ∨ t % 5 = 3 ∨ t % 5 = 4 := by omega
  rcases hm with m | m | m | m | m
  · rw [m]
    have z := h0.1
    rw [show t / 5 * 5 = t by omega] at z
    exact z
  · rw [m]
    have z := h0.2.1
    rw [show t / 5 * 5 + 1 = t by omega] at z
    exact z
  · rw [m]
    have z := h0.2.2
    rw [show t / 5 * 5 + 2 = t by omega] at z
    exact z
  · rw [m]
    have z := h1
    rw [show t / 5 * 5 + 3 = t by omega] at z
    exact z
  · rw [m]
    have z := h2
    rw [show t / 5 * 5 + 4 = t by omega] at z
    exact z
theorem holds_of [Inhabited El] {w : World} {g o cap : Nat} {d : Array R3} (h : RS w g o cap (d.toList.map toR)) : Go.Sort.HoldsK enc3 5 w g o d := by
  intro j hj
  rw [Go.Sort.size_flatK] at hj
  refine ⟨h.ra j _ (flat_get d hj), h.rm.fz j ?_⟩
  have := h.le
  rw [List.length_map, Array.length_toList] at this
  omega
theorem sorted_world [Inhabited El] {w : World} {g o cap n : Nat} {d d' : Array R3} {os : Array Obj} (h : RS w g o cap (d.toList.map toR)) (hs : d'.size = d.size) (hp : 0 < d.size) : RS (sortWorldK enc3 5 w g o n d' os) g o cap (d'.toList.map toR) ∧ Cv (fun k j => k = g ∧ o ≤ j ∧ j < o + d.size * 5) w (sortWorldK enc3 5 w g o n d' os) := by
  have h0 : Go.Sort.HoldsK enc3 5 (Go.Sort.ahead w n) g o d := fun j hj => holds_of h j hj
  have h1 := Go.Sort.holdsK_putRowK (enc := enc3) (k := 5) (Go.Sort.ahead w n) g o d d' h0 hs
  have hsz : (Go.Sort.putRowK enc3 5 (Go.Sort.ahead w n) g o d').heap.size = w.heap.size := Go.Sort.size_putRow ..
  have hce : ∀ k j, k < w.heap.size → (sortWorldK enc3 5 w g o n d' os).cell? ⟨k, j, none⟩ = (Go.Sort.putRowK enc3 5 (Go.Sort.ahead w n) g o d').cell? ⟨k, j, none⟩ := fun k j hk => Go.Sort.cell?_grow _ _ _ (by rw [hsz]; exact hk)
  have hout : ∀ k j, k < w.heap.size → ¬ (k = g ∧ o ≤ j ∧ j < o + d.size * 5) → (sortWorldK enc3 5 w g o n d' os).cell? ⟨k, j, none⟩ = w.cell? ⟨k, j, none⟩ := fun k j hk hn => by
    rw [hce k j hk]
    refine (Go.Sort.cell?_putRow_other id (Go.Sort.ahead w n) g o _ ⟨k, j, none⟩ ?_).trans rfl
    rw [Go.Sort.size_flatK, hs]
    show k ≠ g ∨ j < o ∨ o + d.size * 5 ≤ j
    omega
  have hin : ∀ j, j < d.size * 5 → (sortWorldK enc3 5 w g o n d' os).cell? ⟨g, o + j, none⟩ = some ((Go.Sort.flatK enc3 5 d')[j]!) := fun j hj => by
    rw [hce g _ h.rm.lt]
    exact (h1 j (by rw [Go.Sort.size_flatK, hs]; exact hj)).1
  have hfr : ∀ k j, k < w.heap.size → (sortWorldK enc3 5 w g o n d' os).frozen? ⟨k, j, none⟩ = w.frozen? ⟨k, j, none⟩ := fun k j hk => by
    have e1 : (sortWorldK enc3 5 w g o n d' os).frozen? ⟨k, j, none⟩ = (Go.Sort.putRowK enc3 5 (Go.Sort.ahead w n) g o d').frozen? ⟨k, j, none⟩ := by
      unfold sortWorldK World.frozen?
      rw [Go.Sort.heap_grow_old _ _ (by rw [hsz]; exact hk)]
    rw [e1]
    exact Go.Sort.frozen?_putRow ..
  have hmv : Cv (fun k j => k = g ∧ o ≤ j ∧ j < o + d.size * 5) w (sortWorldK enc3 5 w g o n d' os) := by
    refine ⟨⟨rfl, rfl, rfl, ?_, fun k hk hn => ?_⟩, hout, fun k j hk c => ?_, hfr⟩
    · show _ ≤ (Go.Sort.grow _ _).heap.size
      simp only [Go.Sort.grow, Array.size_append, hsz]; omega
    · unfold sortWorldK
      rw [Go.Sort.heap_grow_old _ _ (by rw [hsz]; exact hk)]
      have hkg : ¬ g = k := fun e => hn ⟨o, e.symm, Nat.le_refl _, by omega⟩
      show ((Go.Sort.ahead w n).heap.modify g _)[k]? = _
      rw [Array.getElem?_modify, if_neg hkg]
      rfl
    · by_cases q : k = g ∧ o ≤ j ∧ j < o + d.size * 5
      · obtain ⟨rfl, q1, q2⟩ := q
        obtain ⟨i, rfl⟩ : ∃ i, j = o + i := ⟨j - o, by omega⟩
        rw [hin i (by omega)]; rfl
      · rw [hout k j hk q]; exact c
  have hl : (d'.toList.map toR).length = (d.toList.map toR).length := by simp [hs]
  refine ⟨⟨by rw [hl]; exact h.le, h.rm.cv hmv, fun j u hj => ?_⟩, hmv⟩
  have hj2 : j < d'.size * 5 := by have := (List.getElem?_eq_some_iff.1 hj).1; rw [flat_len] at this; simpa using this
  rw [flat_get d' hj2] at hj
  rw [hin j (by rw [← hs]; exact hj2)]
  exact hj
theorem RF.perm {w : World} {B : Nat → Prop} {ys xs : List Rec} (h : ys.Perm xs) : ∀ {F : List (Tr El)}, RF w B xs F → ∃ F', F'.Perm F ∧ RF w B ys F' := by
  induction h with
  | nil => intro F h; exact ⟨F, List.Perm.refl _, h⟩
  | cons x _ ih =>
    intro F h
    cases F with
    | nil => exact h.elim
    | cons y F =>
      obtain ⟨F', h1, h2⟩ := ih h.2
      exact ⟨y :: F', h1.cons y, h.1, h2⟩
  | swap x y l =>
    intro F h
    match F, h with
    | a :: b :: F, h => exact ⟨b :: a :: F, List.Perm.swap .., h.2.1, h.1, h.2.2⟩
    | [], h => exact h.elim
    | [_], h => exact h.2.elim
  | trans _ _ ih1 ih2 =>
    intro F h
    obtain ⟨F2, p2, h2⟩ := ih2 h
    obtain ⟨F1, p1, h1⟩ := ih1 h2
    exact ⟨F1, p1.trans p2, h1⟩
theorem RF.turns {w : World} {B : Nat → Prop} : ∀ {xs : List Rec} {F : List (Tr El)}, RF w B xs F → F.map (·.t) = xs.map (·.t)
  | [], [], _ => rfl
  | x :: xs, y :: ys, h => by rw [List.map_cons, List.map_cons, RF.turns h.2, h.1.2.1]
  | [], _ :: _, h => h.elim
  | _ :: _, [], h => h.elim
set_option maxRecDepth 100000 in
set_option maxHeartbeats 1000000 in
theorem nan_any (a : Int) (w : World) : Calls Tryz.prog 62 #[.int .i64 a] w fun e w' => e = .returned (.bool false) ∧ w' = w := by
  go_enter Tryz.func62, Tryz.ntmps62
  go_wp2_with fail
  go_ret
  exact ⟨rfl, rfl⟩
def cmpI (a b : Int) : Int := if a < b then -1 else if b < a then 1 else 0
set_option maxRecDepth 100000 in
set_option maxHeartbeats 1000000 in
theorem compare_any (a b : Int) (w : World) : Calls Tryz.prog 48 #[.int .i64 a, .int .i64 b] w fun e w' => e = .returned (.int .i64 (cmpI a b)) ∧ w' = w := by
  have h1 := nan_any a w
  have h2 := nan_any b w
  have fin : Hid (∀ r, cmpI a b = r → Ending.returned (.int .i64 r) = .returned (.int .i64 (cmpI a b))) := fun r e => by rw [e]
  by_cases l1 : a < b
  · have e : Hid (cmpI a b = -1) := by show _ = _; unfold cmpI; rw [if_pos l1]
    go_enter Tryz.func48, Tryz.ntmps48
    go_wp2_with fail
    refine h1.mono ?_
    rintro e1 w1 ⟨rfl, rfl⟩
    go_wp2_with fail
    refine h2.mono ?_
    rintro e1 w1 ⟨rfl, rfl⟩
    go_wp2_with fail
    go_ret
    exact ⟨fin.out _ e.out, rfl⟩
  · by_cases l2 : b < a
    · have e : Hid (cmpI a b = 1) := by show _ = _; unfold cmpI; rw [if_neg l1, if_pos l2]
      have l3 : decide (a < b) = false := decide_eq_false l1
      have l4 : ¬ a < b := l1
      go_enter Tryz.func48, Tryz.ntmps48
      go_wp2_with fail
      refine h1.mono ?_
      rintro e1 w1 ⟨rfl, rfl⟩
      go_wp2_with fail
      refine h2.mono ?_
      rintro e1 w1 ⟨rfl, rfl⟩
      go_wp2_with fail
      go_ret
      exact ⟨fin.out _ e.out, rfl⟩
    · have e : Hid (cmpI a b = 0) := by show _ = _; unfold cmpI; rw [if_neg l1, if_neg l2]
      obtain rfl : a = b := by omega
      go_enter Tryz.func48, Tryz.ntmps48
      go_wp2_with fail
      refine h1.mono ?_
      rintro e1 w1 ⟨rfl, rfl⟩
      go_wp2_with fail
      refine h2.mono ?_
      rintro e1 w1 ⟨rfl, rfl⟩
      go_wp2_with fail
      go_ret
      exact ⟨fin.out _ e.out, rfl⟩
set_option maxRecDepth 100000 in
set_option maxHeartbeats 1000000 in
theorem free1_any (x y : R3) (W : World) : Calls Tryz.prog 110 #[.agg #[vc0 x.1, vc1 x.1, vc2 x.1, .int .i64 x.2.1, ptrV x.2.2], .agg #[vc0 y.1, vc1 y.1, vc2 y.1, .int .i64 y.2.1, ptrV y.2.2]] W fun e w' => e = .returned (.int .i64 (cmpI x.2.1 y.2.1)) ∧ ∃ q os', w' = Go.Sort.grow (W.drewN q) os' := by
  have hC := fun W' => compare_any x.2.1 y.2.1 W'
  generalize cmpI x.2.1 y.2.1 = r at hC ⊢
  go_enter Tryz.func110, Tryz.ntmps110
  go_wp2_with fail
  refine (hC _).mono ?_
  rintro e w' ⟨rfl, rfl⟩
  go_wp2_with fail
  go_ret
  exact ⟨rfl, 0, _, by rw [Go.Sort.alloc_eq_grow, Go.Sort.alloc_eq_grow, Go.Sort.grow_grow]; rfl⟩
theorem ltOf_cmp (x y : R3) : ltOf (fun x y : R3 => cmpI x.2.1 y.2.1) x y = decide (x.2.1 < y.2.1) := by
  unfold ltOf cmpI
  by_cases h1 : x.2.1 < y.2.1
  · simp [h1]
  · by_cases h2 : y.2.1 < x.2.1 <;> simp [h1, h2]
theorem swo_cmp : Go.Sort.SWO (ltOf fun x y : R3 => cmpI x.2.1 y.2.1) where
  irrefl x := by rw [ltOf_cmp]; simp
  trans x y z h1 h2 := by rw [ltOf_cmp] at *; simp at *; omega
  ntrans x y z h1 h2 := by rw [ltOf_cmp] at *; simp at *; omega
theorem sort_any {w : World} {g o cap : Nat} {xs : List Rec} (h : RS w g o cap xs) (h0 : 0 < xs.length) (hl : xs.length ≤ 400000) :
    Calls Tryz.prog 109 #[slv g o xs.length cap, .func (.func 110) #[] #[]] w fun e V => e = .returned (.tuple #[]) ∧ ∃ ys, ys.Perm xs ∧ ys.Pairwise (fun a b => a.t ≤ b.t) ∧ RS V g o cap ys ∧ Cv (fun k j => k = g ∧ o ≤ j ∧ j < o + xs.length * 5) w V := by
  letI : Inhabited El := ⟨Du.zero⟩
  obtain ⟨d, hd⟩ : ∃ d : Array R3, (xs.map ofR).toArray = d := ⟨_, rfl⟩
  have hx : xs = d.toList.map toR := by rw [← hd]; exact (toR_ofR xs).symm
  have hsz : d.size = xs.length := by rw [← hd]; simp
  have h' := h
  rw [hx] at h'
  have hcon := AnyQ.slices_SortFunc Tryz.sortTd 5 Tryz.isAgg131 Tryz.sizeOf131 enc3 (fun _ => rfl) (fun x v hv => by simp [enc3] at hv; rcases hv with rfl | rfl | rfl | rfl | rfl <;> rfl) (fun x y => cmpI x.2.1 y.2.1) swo_cmp 110 #[] g o cap d w (enters_of Tryz.func110 (by kernel_rfl) rfl) (fun _ _ _ _ x y => free1_any x y _) (holds_of h') h.rm.lt (by omega)
  change Calls Tryz.prog 109 _ _ _ at hcon
  rw [hsz] at hcon
  refine hcon.mono ?_
  rintro e V ⟨rfl, d', n, os, hp, hso, rfl⟩
  have hs' : d'.size = d.size := hp.1
  obtain ⟨r1, r2⟩ := sorted_world (n := n) (os := os) h' hs' (by omega)
  rw [hsz] at r2
  refine ⟨rfl, d'.toList.map toR, ?_, ?_, r1, r2⟩
  · have p := hp.2.2
    have e1 : (d'.extract 0 xs.length).toList = d'.toList := by rw [Array.extract_eq_self_of_le (by omega)]
    have e2 : (d.extract 0 xs.length).toList = d.toList := by rw [Array.extract_eq_self_of_le (by omega)]
    rw [e1, e2] at p
    rw [hx]
    exact p.map _
  · rw [List.pairwise_map, List.pairwise_iff_getElem]
    intro i j hi hj hij
    have q := hso i j (Nat.zero_le _) hij (by simp at hj; omega)
    rw [ltOf_cmp] at q
    simp only [Array.length_toList] at hi hj
    rw [getElem!_pos d' i hi, getElem!_pos d' j hj] at q
    have q2 := of_decide_eq_false q
    show (d'.toList[i]).2.1 ≤ (d'.toList[j]).2.1
    simp only [Array.getElem_toList]
    omega
end Go.Proofs.YtjcdjkfnmobhkaaGreat.Qd
