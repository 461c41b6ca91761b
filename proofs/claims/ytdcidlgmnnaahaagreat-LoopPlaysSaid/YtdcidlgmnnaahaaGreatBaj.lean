import Derived.Test.YtdcidlgmnnaahaaGreatBai
import Derived.Test.YtdcidlgmnnaahaaGreatShelfQ
/- slices.SortFunc of trees by their turns. -/
namespace Go.Proofs.YtdcidlgmnnaahaaGreat.Qw
open Go.RowKit Go.Shelf Go.Lib
attribute [local go_sem] Oper.semAt_some
abbrev R3 := El × Int × Option Nat
def toR (x : R3) : Rec := ⟨x.1, x.2.1, x.2.2⟩
def ofR (x : Rec) : R3 := (x.v, x.t, x.p)
def enc3 (x : R3) : List Value := [vc0 x.1, vc1 x.1, vc2 x.1, vc3 x.1, vc4 x.1, vc5 x.1, .int .i64 x.2.1, ptrV x.2.2]
theorem toR_ofR (l : List Rec) : (l.map ofR).map toR = l := by
  induction l with
  | nil => rfl
  | cons x l ih => simp only [List.map_cons, ih]; rfl
theorem flat_get [Inhabited El] (d : Array R3) {t : Nat} (h : t < d.size * 8) : (flat (d.toList.map toR))[t]? = some ((Go.Sort.flatK enc3 8 d)[t]!) := by
  rw [Go.Sort.get_flatK _ _ _ _ h]
  have hj : t / 8 < d.size := by omega
  have hx : (d.toList.map toR)[t / 8]? = some (toR d[t / 8]!) := by
    rw [List.getElem?_map, Array.getElem?_toList, getElem!_pos d (t / 8) hj, Array.getElem?_eq_getElem hj]; rfl
  obtain ⟨h0, h1, h2⟩ := flat_at _ _ _ hx
  obtain ⟨x, e⟩ : ∃ x, d[t / 8]! = x := ⟨_, rfl⟩
  rw [e] at h0 h1 h2 ⊢
  have hm : t % 8 = 0 ∨ t % 8 = 1 ∨ t % 8 = 2 ∨ t % 8 = 3 ∨ t % 8 = 4 ∨ t % 8 = 5 ∨ t % 8 = 6 ∨ t % 8 = 7 := by omega
  rcases hm with m | m | m | m | m | m | m | m
  · rw [m]
    have z := h0.1
    rw [show t / 8 * 8 = t by omega] at z
    exact z
  · rw [m]
    have z := h0.2.1
    rw [show t / 8 * 8 + 1 = t by omega] at z
    exact z
  · rw [m]
    have z := h0.2.2.1
    rw [show t / 8 * 8 + 2 = t by omega] at z
    exact z
  · rw [m]
    have z := h0.2.2.2.1
    rw [show t / 8 * 8 + 3 = t by omega] at z
    exact z
  · rw [m]
    have z := h0.2.2.2.2.1
    rw [show t / 8 * 8 + 4 = t by omega] at z
    exact z
  · rw [m]
    have z := h0.2.2.2.2.2
    rw [show t / 8 * 8 + 5 = t by omega] at z
    exact z
  · rw [m]
    have z := h1
    rw [show t / 8 * 8 + 6 = t by omega] at z
    exact z
  · rw [m]
    have z := h2
    rw [show t / 8 * 8 + 7 = t by omega] at z
    exact z
theorem holds_of [Inhabited El] {w : World} {g o cap : Nat} {d : Array R3} (h : RS w g o cap (d.toList.map toR)) : Go.Sort.HoldsK enc3 8 w g o d := by
  intro j hj
  rw [Go.Sort.size_flatK] at hj
  refine ⟨h.ra j _ (flat_get d hj), h.rm.fz j ?_⟩
  have := h.le
  rw [List.length_map, Array.length_toList] at this
  omega
theorem sorted_world [Inhabited El] {w : World} {g o cap n : Nat} {d d' : Array R3} {os : Array Obj} (h : RS w g o cap (d.toList.map toR)) (hs : d'.size = d.size) (hp : 0 < d.size) : RS (sortWorldK enc3 8 w g o n d' os) g o cap (d'.toList.map toR) ∧ Cv (fun k j => k = g ∧ o ≤ j ∧ j < o + d.size * 8) w (sortWorldK enc3 8 w g o n d' os) := by
  have h0 : Go.Sort.HoldsK enc3 8 (Go.Sort.ahead w n) g o d := fun j hj => holds_of h j hj
  have h1 := Go.Sort.holdsK_putRowK (enc := enc3) (k := 8) (Go.Sort.ahead w n) g o d d' h0 hs
  have hsz : (Go.Sort.putRowK enc3 8 (Go.Sort.ahead w n) g o d').heap.size = w.heap.size := Go.Sort.size_putRow ..
  have hce : ∀ k j, k < w.heap.size → (sortWorldK enc3 8 w g o n d' os).cell? ⟨k, j, none⟩ = (Go.Sort.putRowK enc3 8 (Go.Sort.ahead w n) g o d').cell? ⟨k, j, none⟩ := fun k j hk => Go.Sort.cell?_grow _ _ _ (by rw [hsz]; exact hk)
  have hout : ∀ k j, k < w.heap.size → ¬ (k = g ∧ o ≤ j ∧ j < o + d.size * 8) → (sortWorldK enc3 8 w g o n d' os).cell? ⟨k, j, none⟩ = w.cell? ⟨k, j, none⟩ := fun k j hk hn => by
    rw [hce k j hk]
    refine (Go.Sort.cell?_putRow_other id (Go.Sort.ahead w n) g o _ ⟨k, j, none⟩ ?_).trans rfl
    rw [Go.Sort.size_flatK, hs]
    show k ≠ g ∨ j < o ∨ o + d.size * 8 ≤ j
    omega
  have hin : ∀ j, j < d.size * 8 → (sortWorldK enc3 8 w g o n d' os).cell? ⟨g, o + j, none⟩ = some ((Go.Sort.flatK enc3 8 d')[j]!) := fun j hj => by
    rw [hce g _ h.rm.lt]
    exact (h1 j (by rw [Go.Sort.size_flatK, hs]; exact hj)).1
  have hfr : ∀ k j, k < w.heap.size → (sortWorldK enc3 8 w g o n d' os).frozen? ⟨k, j, none⟩ = w.frozen? ⟨k, j, none⟩ := fun k j hk => by
    have e1 : (sortWorldK enc3 8 w g o n d' os).frozen? ⟨k, j, none⟩ = (Go.Sort.putRowK enc3 8 (Go.Sort.ahead w n) g o d').frozen? ⟨k, j, none⟩ := by
      unfold sortWorldK World.frozen?
      rw [Go.Sort.heap_grow_old _ _ (by rw [hsz]; exact hk)]
    rw [e1]
    exact Go.Sort.frozen?_putRow ..
  have hmv : Cv (fun k j => k = g ∧ o ≤ j ∧ j < o + d.size * 8) w (sortWorldK enc3 8 w g o n d' os) := by
    refine ⟨⟨rfl, rfl, rfl, ?_, fun k hk hn => ?_⟩, hout, fun k j hk c => ?_, hfr⟩
    · show _ ≤ (Go.Sort.grow _ _).heap.size
      simp only [Go.Sort.grow, Array.size_append, hsz]; omega
    · unfold sortWorldK
      rw [Go.Sort.heap_grow_old _ _ (by rw [hsz]; exact hk)]
      have hkg : ¬ g = k := fun e => hn ⟨o, e.symm, Nat.le_refl _, by omega⟩
      show ((Go.Sort.ahead w n).heap.modify g _)[k]? = _
      rw [Array.getElem?_modify, if_neg hkg]
      rfl
    · by_cases q : k = g ∧ o ≤ j ∧ j < o + d.size * 8
      · obtain ⟨rfl, q1, q2⟩ := q
        obtain ⟨i, rfl⟩ : ∃ i, j = o + i := ⟨j - o, by omega⟩
        rw [hin i (by omega)]; rfl
      · rw [hout k j hk q]; exact c
  have hl : (d'.toList.map toR).length = (d.toList.map toR).length := by simp [hs]
  refine ⟨⟨by rw [hl]; exact h.le, h.rm.cv hmv, fun j u hj => ?_⟩, hmv⟩
  have hj2 : j < d'.size * 8 := by have := (List.getElem?_eq_some_iff.1 hj).1; rw [flat_len] at this; simpa using this
  rw [flat_get d' hj2] at hj
  rw [hin j (by rw [← hs]; exact hj2)]
  exact hj
theorem RF.perm {w : World} {B : Nat → Prop} {ys xs : List Rec} (h : ys.Perm xs) : ∀ {F : List (Tr El)}, RF w B xs F → ∃ F', F'.Perm F ∧ RF w B ys F' := by
  induction h with
  | nil => intro F h; exact ⟨F, List.Perm.refl _, h⟩
  | cons x _ ih =>
    intro F h
    cases F with
    | nil => exact h.elim
    | cons y F =>
      obtain ⟨F', h1, h2⟩ := ih h.2
      exact ⟨y :: F', h1.cons y, h.1, h2⟩
  | swap x y l =>
    intro F h
    match F, h with
    | a :: b :: F, h => exact ⟨b :: a :: F, List.Perm.swap .., h.2.1, h.1, h.2.2⟩
    | [], h => exact h.elim
    | [_], h => exact h.2.elim
  | trans _ _ ih1 ih2 =>
    intro F h
    obtain ⟨F2, p2, h2⟩ := ih2 h
    obtain ⟨F1, p1, h1⟩ := ih1 h2
    exact ⟨F1, p1.trans p2, h1⟩
theorem RF.turns {w : World} {B : Nat → Prop} : ∀ {xs : List Rec} {F : List (Tr El)}, RF w B xs F → F.map (·.t) = xs.map (·.t)
  | [], [], _ => rfl
  | x :: xs, y :: ys, h => by rw [List.map_cons, List.map_cons, RF.turns h.2, h.1.2.1]
  | [], _ :: _, h => h.elim
  | _ :: _, [], h => h.elim
set_option maxRecDepth 100000 in
set_option maxHeartbeats 1000000 in
theorem nan_any (a : Int) (w : World) : Calls Tryz.prog 58 #[.int .i64 a] w fun e w' => e = .returned (.bool false) ∧ w' = w := by
  go_enter Tryz.func58, Tryz.ntmps58
  go_wp2_with fail
  go_ret
  exact ⟨rfl, rfl⟩
def cmpI (a b : Int) : Int := if a < b then -1 else if b < a then 1 else 0
set_option maxRecDepth 100000 in
set_option maxHeartbeats 1000000 in
theorem compare_any (a b : Int) (w : World) : Calls Tryz.prog 44 #[.int .i64 a, .int .i64 b] w fun e w' => e = .returned (.int .i64 (cmpI a b)) ∧ w' = w := by
  have h1 := nan_any a w
  have h2 := nan_any b w
  have fin : Hid (∀ r, cmpI a b = r → Ending.returned (.int .i64 r) = .returned (.int .i64 (cmpI a b))) := fun r e => by rw [e]
  by_cases l1 : a < b
  · have e : Hid (cmpI a b = -1) := by show _ = _; unfold cmpI; rw [if_pos l1]
    go_enter Tryz.func44, Tryz.ntmps44
    go_wp2_with fail
    refine h1.mono ?_
    rintro e1 w1 ⟨rfl, rfl⟩
    go_wp2_with fail
    refine h2.mono ?_
    rintro e1 w1 ⟨rfl, rfl⟩
    go_wp2_with fail
    go_ret
    exact ⟨fin.out _ e.out, rfl⟩
  · by_cases l2 : b < a
    · have e : Hid (cmpI a b = 1) := by show _ = _; unfold cmpI; rw [if_neg l1, if_pos l2]
      have l3 : decide (a < b) = false := decide_eq_false l1
      have l4 : ¬ a < b := l1
      go_enter Tryz.func44, Tryz.ntmps44
      go_wp2_with fail
      refine h1.mono ?_
      rintro e1 w1 ⟨rfl, rfl⟩
      go_wp2_with fail
      refine h2.mono ?_
      rintro e1 w1 ⟨rfl, rfl⟩
      go_wp2_with fail
      go_ret
      exact ⟨fin.out _ e.out, rfl⟩
    · have e : Hid (cmpI a b = 0) := by show _ = _; unfold cmpI; rw [if_neg l1, if_neg l2]
      obtain rfl : a = b := by omega
      go_enter Tryz.func44, Tryz.ntmps44
      go_wp2_with fail
      refine h1.mono ?_
      rintro e1 w1 ⟨rfl, rfl⟩
      go_wp2_with fail
      refine h2.mono ?_
      rintro e1 w1 ⟨rfl, rfl⟩
      go_wp2_with fail
      go_ret
      exact ⟨fin.out _ e.out, rfl⟩
set_option maxRecDepth 100000 in
set_option maxHeartbeats 1000000 in
theorem free1_any (x y : R3) (W : World) : Calls Tryz.prog 62 #[.agg #[vc0 x.1, vc1 x.1, vc2 x.1, vc3 x.1, vc4 x.1, vc5 x.1, .int .i64 x.2.1, ptrV x.2.2], .agg #[vc0 y.1, vc1 y.1, vc2 y.1, vc3 y.1, vc4 y.1, vc5 y.1, .int .i64 y.2.1, ptrV y.2.2]] W fun e w' => e = .returned (.int .i64 (cmpI x.2.1 y.2.1)) ∧ ∃ q os', w' = Go.Sort.grow (W.drewN q) os' := by
  have hC := fun W' => compare_any x.2.1 y.2.1 W'
  generalize cmpI x.2.1 y.2.1 = r at hC ⊢
  go_enter Tryz.func62, Tryz.ntmps62
  go_wp2_with fail
  refine (hC _).mono ?_
  rintro e w' ⟨rfl, rfl⟩
  go_wp2_with fail
  go_ret
  exact ⟨rfl, 0, _, by rw [Go.Sort.alloc_eq_grow, Go.Sort.alloc_eq_grow, Go.Sort.grow_grow]; rfl⟩
theorem ltOf_cmp (x y : R3) : ltOf (fun x y : R3 => cmpI x.2.1 y.2.1) x y = decide (x.2.1 < y.2.1) := by
  unfold ltOf cmpI
  by_cases h1 : x.2.1 < y.2.1
  · simp [h1]
  · by_cases h2 : y.2.1 < x.2.1 <;> simp [h1, h2]
theorem swo_cmp : Go.Sort.SWO (ltOf fun x y : R3 => cmpI x.2.1 y.2.1) where
  irrefl x := by rw [ltOf_cmp]; simp
  trans x y z h1 h2 := by rw [ltOf_cmp] at *; simp at *; omega
  ntrans x y z h1 h2 := by rw [ltOf_cmp] at *; simp at *; omega
theorem sort_any {w : World} {g o cap : Nat} {xs : List Rec} (h : RS w g o cap xs) (h0 : 0 < xs.length) (hl : xs.length ≤ 400000) :
    Calls Tryz.prog 61 #[slv g o xs.length cap, .func (.func 62) #[] #[]] w fun e V => e = .returned (.tuple #[]) ∧ ∃ ys, ys.Perm xs ∧ ys.Pairwise (fun a b => a.t ≤ b.t) ∧ RS V g o cap ys ∧ Cv (fun k j => k = g ∧ o ≤ j ∧ j < o + xs.length * 8) w V := by
  letI : Inhabited El := ⟨Wt.zero⟩
  obtain ⟨d, hd⟩ : ∃ d : Array R3, (xs.map ofR).toArray = d := ⟨_, rfl⟩
  have hx : xs = d.toList.map toR := by rw [← hd]; exact (toR_ofR xs).symm
  have hsz : d.size = xs.length := by rw [← hd]; simp
  have h' := h
  rw [hx] at h'
  have hcon := AnyQ.slices_SortFunc Tryz.sortTw 8 Tryz.isAgg94 Tryz.sizeOf94 enc3 (fun _ => rfl) (fun x v hv => by simp [enc3] at hv; rcases hv with rfl | rfl | rfl | rfl | rfl | rfl | rfl | rfl <;> rfl) (fun x y => cmpI x.2.1 y.2.1) swo_cmp 62 #[] g o cap d w (enters_of Tryz.func62 (by kernel_rfl) rfl) (fun _ _ _ _ x y => free1_any x y _) (holds_of h') h.rm.lt (by omega)
  change Calls Tryz.prog 61 _ _ _ at hcon
  rw [hsz] at hcon
  refine hcon.mono ?_
  rintro e V ⟨rfl, d', n, os, hp, hso, rfl⟩
  have hs' : d'.size = d.size := hp.1
  obtain ⟨r1, r2⟩ := sorted_world (n := n) (os := os) h' hs' (by omega)
  rw [hsz] at r2
  refine ⟨rfl, d'.toList.map toR, ?_, ?_, r1, r2⟩
  · have p := hp.2.2
    have e1 : (d'.extract 0 xs.length).toList = d'.toList := by rw [Array.extract_eq_self_of_le (by omega)]
    have e2 : (d.extract 0 xs.length).toList = d.toList := by rw [Array.extract_eq_self_of_le (by omega)]
    rw [e1, e2] at p
    rw [hx]
    exact p.map _
  · rw [List.pairwise_map, List.pairwise_iff_getElem]
    intro i j hi hj hij
    have q := hso i j (Nat.zero_le _) hij (by simp at hj; omega)
    rw [ltOf_cmp] at q
    simp only [Array.length_toList] at hi hj
    rw [getElem!_pos d' i hi, getElem!_pos d' j hj] at q
    have q2 := of_decide_eq_false q
    show (d'.toList[i]).2.1 ≤ (d'.toList[j]).2.1
    simp only [Array.getElem_toList]
    omega
end Go.Proofs.YtdcidlgmnnaahaaGreat.Qw
/- free: what waited behind one that is out. -/
namespace Go.Proofs.YtdcidlgmnnaahaaGreat.Qw
open Go.RowKit Go.Shelf Go.Lib
attribute [local go_sem] Oper.semAt_some
theorem step_append_run {P : Program} {w : World} {ops : Array Oper} {o : Oper} {a : Act} {K : Act → World → Prop} {Q : Exit → Act → World → Prop} {E : Prop} (hgd : o.guard = none) (s x : Operand) (t : TypeId)
    (ho : o.op = .call { callee := .builtin .append, args := #[s, x], argTypes := #[t, t] }) (v xv v' : Value) (w' : World) (hs : a.eval s = v) (hx : a.eval x = xv)
    (hr : (Builtin.append_ #[t, t] o.type #[v, xv]).run P w = .ok v' w') (h : K (a.put o.dst v') w') : if Region.wanted o (yielded ops a.tmps) = true then Oper.wp P o a w K Q else E := by
  have hw : Region.wanted o (yielded ops a.tmps) = true := by simp [Region.wanted, hgd]
  rw [if_pos hw]
  unfold Oper.wp execOp
  simp only [ho, resolve, invoke, builtin, Sem.run_bind, Sem.run_pure, Result.andThen_ok, List.map_toArray, List.map_cons, List.map_nil, hs, hx, hr]
  exact h
set_option maxRecDepth 100000 in
set_option maxHeartbeats 1000000 in
theorem index_nil (f : Value) (w : World) : Calls Tryz.prog 88 #[.slice none 0 0, f] w fun e w' => e = .returned (.int .i64 (-1)) ∧ w' = w := by
  go_enter Tryz.func88, Tryz.ntmps88
  go_wp2_with fail
  go_loopw [8] (fun i wr => i = .int .i64 0 ∧ Hid (wr = w)) (fun _ _ => 0)
  case atStart => exact ⟨rfl, rfl⟩
  case round =>
    obtain ⟨rfl, hw⟩ := hrel
    obtain rfl := hw.out
    go_wp2_with fail
    go_ret
    exact ⟨rfl, rfl⟩
set_option maxRecDepth 100000 in
set_option maxHeartbeats 1000000 in
theorem unheld_nil (q : Nat) (p2 : Option Addr) (n c2 : Nat) (hn : 0 < n) (w : World) :
    Calls Tryz.prog 59 #[qp q, .slice none 0 0, .slice p2 n c2] w fun e V => e = .returned (.slice none 0 0) ∧ Below w.heap.size w V := by
  obtain ⟨W0, hW0⟩ : ∃ W0, (w.alloc (.cells #[qp q] 58)).alloc (.cells #[.slice p2 n c2] 52) = W0 := ⟨_, rfl⟩
  have b0 : Hid (Below w.heap.size w W0) := by show Below _ _ _; rw [← hW0]; exact ((Below.refl _ _).alloc (Nat.le_refl _) _).alloc (by simp) _
  have k1 : W0.cell? ⟨w.heap.size + 1, 0, none⟩ = some (.slice p2 n c2) := by rw [← hW0]; exact cell_at (by simp) rfl
  have hD : Hid (∀ f, Calls Tryz.prog 76 #[.slice none 0 0, f] W0 fun e V => e = .returned (.slice none 0 0) ∧ V = W0) := by
    intro f
    have hI := index_nil f W0
    clear hW0 b0 k1 hn
    go_enter Tryz.func76, Tryz.ntmps76
    go_wp2_with fail
    refine hI.mono ?_
    rintro e w2 ⟨rfl, rfl⟩
    go_wp2_with fail
    go_ret
    exact ⟨rfl, rfl⟩
  have hne : ¬ n = 0 := by omega
  have hneI : ((n : Int) == 0) = false := by simp; omega
  unfold qp at *
  go_enter Tryz.func59, Tryz.ntmps59
  go_wp2_with (rw [hW0])
  refine (hD.out _).mono ?_
  rintro e w2 ⟨rfl, rfl⟩
  go_wp2_with fail
  go_ret
  exact ⟨rfl, b0.out⟩
theorem LR.mv {E : Nat → Prop} {w V : World} {B : Nat → Prop} (m : Mv E w V) (h3 : ∀ k, B k → ¬ E k) : ∀ (f : Fo El) (p : Option Nat), LR w B f p → LR V B f p
  | .nil, _, h => h
  | .cons _ _ k r, p, h => by
    obtain ⟨b, pk, pr, rfl, hb, c0, c1, c2, c3, hk, hr⟩ := h
    have nb := h3 b hb
    exact ⟨b, pk, pr, rfl, hb, ⟨m.cell (a := ⟨b, 0, none⟩) nb c0.1, m.cell (a := ⟨b, 1, none⟩) nb c0.2.1, m.cell (a := ⟨b, 2, none⟩) nb c0.2.2.1, m.cell (a := ⟨b, 3, none⟩) nb c0.2.2.2.1, m.cell (a := ⟨b, 4, none⟩) nb c0.2.2.2.2.1, m.cell (a := ⟨b, 5, none⟩) nb c0.2.2.2.2.2⟩, m.cell (a := ⟨b, 6, none⟩) nb c1, m.cell (a := ⟨b, 7, none⟩) nb c2, m.cell (a := ⟨b, 8, none⟩) nb c3, LR.mv m h3 k pk hk, LR.mv m h3 r pr hr⟩
theorem RF.mv {E : Nat → Prop} {w V : World} {B : Nat → Prop} (m : Mv E w V) (h3 : ∀ k, B k → ¬ E k) : ∀ (xs : List Rec) (F : List (Tr El)), RF w B xs F → RF V B xs F
  | [], [], _ => trivial
  | _ :: xs, _ :: ys, h => ⟨⟨h.1.1, h.1.2.1, LR.mv m h3 _ _ h.1.2.2⟩, RF.mv m h3 xs ys h.2⟩
  | [], _ :: _, h => h.elim
  | _ :: _, [], h => h.elim
/-- A queue in memory: its order, its front v (the records xs, the trees F), how many there are, how many were pushed. -/
structure Qm (nb : NB) (w : World) (q : Nat) (B : Nat → Prop) (v : Value) (xs : List Rec) (F : List (Tr El)) (cnt psh : Int) : Prop where
  c0 : w.cell? ⟨q, 0, none⟩ = some (fnV nb)
  c1 : w.cell? ⟨q, 1, none⟩ = some v
  c2 : w.cell? ⟨q, 2, none⟩ = some (.int .i64 cnt)
  c3 : w.cell? ⟨q, 3, none⟩ = some (.int .i64 psh)
  f1 : w.frozen? ⟨q, 1, none⟩ = false
  f2 : w.frozen? ⟨q, 2, none⟩ = false
  f3 : w.frozen? ⟨q, 3, none⟩ = false
  sv : SV w v xs
  rf : RF w B xs F
  nq : nbk v ≠ some q
  nB : ∀ k, B k → k ≠ q ∧ nbk v ≠ some k
  lo : ∀ k, B k → k < w.heap.size
  len : xs.length ≤ 300000
  xt : Xt w q nb.X
theorem Qm.lt {nb : NB} {w : World} {q : Nat} {B : Nat → Prop} {v : Value} {xs : List Rec} {F : List (Tr El)} {cnt psh : Int} (h : Qm nb w q B v xs F cnt psh) : q < w.heap.size := cell_lt h.c0
theorem Qm.mv {E : Nat → Prop} {nb : NB} {w V : World} {q : Nat} {B : Nat → Prop} {v : Value} {xs : List Rec} {F : List (Tr El)} {cnt psh : Int} (h : Qm nb w q B v xs F cnt psh) (m : Mv E w V) (h1 : ¬ E q) (h2 : ∀ k, nbk v = some k → ¬ E k) (h3 : ∀ k, B k → ¬ E k) : Qm nb V q B v xs F cnt psh := by
  have lq := h.lt
  exact ⟨m.cell (a := ⟨q, 0, none⟩) h1 h.c0, m.cell (a := ⟨q, 1, none⟩) h1 h.c1, m.cell (a := ⟨q, 2, none⟩) h1 h.c2, m.cell (a := ⟨q, 3, none⟩) h1 h.c3, (m.froz (a := ⟨q, 1, none⟩) h1 lq).trans h.f1, (m.froz (a := ⟨q, 2, none⟩) h1 lq).trans h.f2, (m.froz (a := ⟨q, 3, none⟩) h1 lq).trans h.f3, h.sv.mv m h2, RF.mv m h3 _ _ h.rf, h.nq, h.nB, fun k hk => Nat.lt_of_lt_of_le (h.lo k hk) m.size, h.len, h.xt.mv m h1 lq⟩
theorem Qm.below {nb : NB} {w V : World} {q : Nat} {B : Nat → Prop} {v : Value} {xs : List Rec} {F : List (Tr El)} {cnt psh : Int} (h : Qm nb w q B v xs F cnt psh) (b : Below w.heap.size w V) : Qm nb V q B v xs F cnt psh := h.mv (E := fun _ => False) (Mv.below b) (fun h => h) (fun _ _ h => h) (fun _ _ h => h)
/-- What a call leaves: the queue with the front F', in territories of its own. -/
def QP (nb : NB) (w : World) (q : Nat) (B : Nat → Prop) (v : Value) (E : Nat → Prop) (F' : List (Tr El)) (cnt psh : Int) (V : World) : Prop :=
  ∃ v' xs' B', Qm nb V q B' v' xs' F' cnt psh ∧ Mv E w V ∧ Gr B w B' ∧ (nbk v' = nbk v ∨ ∃ k, nbk v' = some k ∧ w.heap.size ≤ k)
theorem onL_nil {α : Type} : ∀ l : List (Tr α), onL [] l = l
  | [] => rfl
  | [_] => rfl
  | x :: y :: l => by show x :: onL [] (y :: l) = _; rw [onL_nil (y :: l)]
theorem SV.appendN {w : World} {v : Value} {l : List Rec} (h : SV w v l) {g2 o2 : Nat} {ys : List Rec} (hx : RA w g2 o2 ys) (hy : ys ≠ []) (hl : l.length ≤ 400000) (hl2 : ys.length ≤ 400000) (c2 : Nat) :
    ∃ v' w', (Builtin.append_ #[52, 52] 52 #[v, slv g2 o2 ys.length c2]).run Tryz.prog w = .ok v' w' ∧ SV w' v' (l ++ ys) ∧ Mv (fun k => nbk v = some k) w w' ∧ (nbk v' = nbk v ∨ ∃ k, nbk v' = some k ∧ w.heap.size ≤ k) := by
  rcases h with ⟨rfl, rfl⟩ | ⟨g, o, c, rfl, h⟩
  · obtain ⟨g', c', w', hrun, hg, hrs, hb⟩ := app_nil (c2 := c2) hx hy (by omega) 52
    exact ⟨_, w', hrun, .inr ⟨g', 0, c', rfl, hrs⟩, Mv.below hb, .inr ⟨g', rfl, hg⟩⟩
  · by_cases hroom : l.length + ys.length ≤ c
    · obtain ⟨V', hrun, hrs, hc⟩ := app_room h (c2 := c2) hx hroom 52
      exact ⟨_, V', hrun, .inr ⟨g, o, c, by rw [List.length_append], hrs⟩, hc.mv.mono (fun k _ s => by obtain ⟨j, e, _⟩ := s; subst e; rfl), .inl rfl⟩
    · obtain ⟨g', c', V', hrun, hg, hrs, hb⟩ := app_grow h (c2 := c2) hx (by omega) (by omega) (by omega) 52
      exact ⟨_, V', hrun, .inr ⟨g', 0, c', by rw [List.length_append], hrs⟩, Mv.below hb, .inr ⟨g', rfl, hg⟩⟩
set_option maxRecDepth 100000 in
set_option maxHeartbeats 1000000 in
/-- free where nothing is left to be made anew. -/
theorem free_short {q : Nat} {w : World} {pv pt p : Option Addr} {n cv nt ct c : Nat} {P : World → Prop} (hc1 : w.cell? ⟨q, 1, none⟩ = some (.slice pv n cv)) (hU : Calls Tryz.prog 59 #[qp q, .slice pt nt ct, .slice pv n cv] w fun e V => e = .returned (.slice p 0 c) ∧ P V) :
    Calls Tryz.prog 46 #[qp q, .slice pt nt ct] w fun e V => e = .returned (.tuple #[]) ∧ P V := by
  have hUH := hidP hU
  clear hU
  unfold qp at *
  go_enter Tryz.func46, Tryz.ntmps46
  go_wp2_with fail
  refine hUH.out.mono ?_
  rintro e V ⟨rfl, hP⟩
  have hPH := hidP hP
  clear hP hUH
  go_wp2_with fail
  refine bodyPost_ret (results_none rfl _ _ _) rfl ?_
  exact ⟨rfl, hPH.out⟩
/-- What least and the sort leave. -/
structure Fn (nb : NB) (key : El → Int) (w : World) (q : Nat) (B : Nat → Prop) (v : Value) (F : List (Tr El)) (gt : Nat) (cnt psh : Int) (V : World) : Prop where
  out : ∃ F', F'.Perm F ∧ F'.Pairwise (fun a b => a.t ≤ b.t) ∧ QP nb w q B v (fun k => k = q ∨ nbk v = some k ∨ k = gt) F' cnt psh V
end Go.Proofs.YtdcidlgmnnaahaaGreat.Qw
/- free where the front is empty: the front made anew. -/
namespace Go.Proofs.YtdcidlgmnnaahaaGreat.Qw
open Go.RowKit Go.Shelf Go.Lib
attribute [local go_sem] Oper.semAt_some
set_option maxRecDepth 100000 in
set_option maxHeartbeats 4000000 in
theorem free_new {nb : NB} {key : El → Int} (hB : Bf nb key) {q : Nat} {w : World} {B : Nat → Prop} {v : Value} {cnt psh : Int} (h : Qm nb w q B v [] [] cnt psh) {ts : List Rec} {T : List (Tr El)} {gt ot ct : Nat} (hls : Ls key w B ts T gt ot ct) (h0 : 0 < ts.length) (hN : ts.length ≤ 300000) (nq : q ≠ gt) (nv : nbk v ≠ some gt) :
    Calls Tryz.prog 46 #[qp q, slv gt ot ts.length ct] w fun e V => e = .returned (.tuple #[]) ∧ Fn nb key w q B v (leastL key ts.length T) gt cnt psh V := by
  obtain ⟨pv, cv, hv⟩ := h.sv.shape
  have hv' : v = .slice pv 0 cv := hv
  clear hv
  obtain ⟨nt, hnt⟩ : ∃ nt, ts.length = nt := ⟨_, rfl⟩
  have hE := hidP (unheld_empty q (some ⟨gt, ot, none⟩) pv nt ct cv w)
  have hL : Hid (∀ w1, Below w.heap.size w w1 → Calls Tryz.prog 60 #[qp q, slv gt ot nt ct] w1.drew fun e V1 => ∃ xs1 : List Rec, e = .returned (slv gt ot xs1.length ct) ∧ (V1.cell? ⟨q, 1, none⟩ = some (.slice pv 0 cv) ∧ ∃ pv2 nv2 cv2 V2, (Builtin.append_ #[52, 52] 52 #[.slice pv 0 cv, slv gt ot xs1.length ct]).run Tryz.prog V1 = .ok (.slice pv2 nv2 cv2) V2 ∧ V2.cell? ⟨q, 1, none⟩ = some (.slice pv 0 cv) ∧ (V2.frozen? ⟨q, 1, none⟩ = false ∧ ∃ V3, V2.setCell ⟨q, 1, none⟩ (.slice pv2 nv2 cv2) = V3 ∧ V3.cell? ⟨q, 1, none⟩ = some (.slice pv2 nv2 cv2) ∧ Calls Tryz.prog 61 #[.slice pv2 nv2 cv2, .func (.func 62) #[] #[]] V3 fun e V4 => e = .returned (.tuple #[]) ∧ Fn nb key w q B v (leastL key nt T) gt cnt psh V4))) := by
    intro w1 hb1
    have hb : Below w.heap.size w w1.drew := hb1.trans ((Below.refl _ _).drew)
    have hm := h.below hb
    have c := least_any hB nt (hls.below hb) (by omega) hm.c0 nq
    rw [hnt] at c
    refine c.mono ?_
    rintro e V1 ⟨xs1, B1, rfl, rs1, rf1, up1, gr1, lo1, cv1⟩
    have hgtw := hls.rs.rm.lt
    have mv1 : Mv (fun k => k = gt) w V1 := by
      refine (Mv.below hb).trans' (cv1.mv.mono fun k _ s => ?_)
      obtain ⟨j, s, _⟩ := s; exact s
    have hm1 := h.mv mv1 nq (fun k hk e => nv (e ▸ hk)) (fun k hk e => hls.ng k hk e)
    have hl1 : xs1.length ≤ nt := by
      rw [rf1.len]
      exact Nat.le_trans (leastL_len _ _ _) (by rw [← hls.rf.len]; omega)
    have hp1 : 0 < xs1.length := by
      rw [rf1.len]
      exact List.length_pos_iff.2 (leastL_ne _ _ _ (fun e => by have := hls.rf.len; rw [e] at this; simp at this; rw [this] at h0; simp at h0))
    have hc1 := hm1.c1
    rw [hv'] at hc1
    refine ⟨xs1, rfl, hc1, ?_⟩
    obtain ⟨v2, V2, hrun, sv2, mv2, at2⟩ := hm1.sv.appendN rs1.ra (fun e => by rw [e] at hp1; simp at hp1) (by simp) (by omega) ct
    rw [hv'] at hrun
    have gr1w : Gr B w B1 := fun b hb' => (gr1 b hb').imp id (fun s => Nat.le_trans hb.size s)
    have n1q : ∀ b, B1 b → b ≠ q := fun b hb' => by
      rcases gr1w b hb' with s | s
      · exact (h.nB b s).1
      · have := h.lt; omega
    have n1v : ∀ b, B1 b → nbk v ≠ some b := fun b hb' e => by
      rcases gr1w b hb' with s | s
      · exact (h.nB b s).2 e
      · have := h.sv.lt e; omega
    have sz1 := mv1.size
    have n2q : nbk v2 ≠ some q := fun e => by
      rcases at2 with s | ⟨k, s, hk⟩
      · exact h.nq (s ▸ e)
      · rw [e] at s; injection s with s; have := h.lt; omega
    have n2B : ∀ b, B1 b → nbk v2 ≠ some b := fun b hb' e => by
      rcases at2 with s | ⟨k, s, hk⟩
      · exact n1v b hb' (s ▸ e)
      · rw [e] at s; injection s with s; have := lo1 b hb'; omega
    rw [List.nil_append] at sv2
    obtain ⟨pv2, cv2, hv2⟩ := sv2.shape
    have m12 : Mv (fun k => k = gt ∨ nbk v = some k) w V2 := (mv1.mono (fun k _ e => .inl e)).trans' (mv2.mono (fun k _ e => .inr e))
    have e12 : ¬ (q = gt ∨ nbk v = some q) := fun e => e.elim nq h.nq
    have lq := h.lt
    have d0 := m12.cell (a := ⟨q, 0, none⟩) e12 h.c0
    have d1 := m12.cell (a := ⟨q, 1, none⟩) e12 h.c1
    have d2 := m12.cell (a := ⟨q, 2, none⟩) e12 h.c2
    have d3 := m12.cell (a := ⟨q, 3, none⟩) e12 h.c3
    have g1 := (m12.froz (a := ⟨q, 1, none⟩) e12 lq).trans h.f1
    have g2 := (m12.froz (a := ⟨q, 2, none⟩) e12 lq).trans h.f2
    have g3 := (m12.froz (a := ⟨q, 3, none⟩) e12 lq).trans h.f3
    obtain ⟨V3, hV3⟩ : ∃ V3, V2.setCell ⟨q, 1, none⟩ v2 = V3 := ⟨_, rfl⟩
    have cv3 : Cv (fun k j => k = q ∧ j = 1) V2 V3 := by rw [← hV3]; exact Cv.one _ _ _ _
    have mv3 : Mv (fun k => k = q) V2 V3 := cv3.mv.mono fun k _ s => by obtain ⟨j, s, _⟩ := s; exact s
    have a0 := cv3.cell (k := q) (j := 0) (by omega) d0
    have a1 : V3.cell? ⟨q, 1, none⟩ = some v2 := by rw [← hV3]; exact World.cell?_setCell_same _ _ _ d1
    have a2 := cv3.cell (k := q) (j := 2) (by omega) d2
    have a3 := cv3.cell (k := q) (j := 3) (by omega) d3
    have lq2 : q < V2.heap.size := cell_lt d0
    have b1 := (cv3.fr q 1 lq2).trans g1
    have b2 := (cv3.fr q 2 lq2).trans g2
    have b3 := (cv3.fr q 3 lq2).trans g3
    have rf3 : RF V3 B1 xs1 (leastL key nt T) := RF.mv mv3 (fun k hk e => n1q k hk e) _ _ (RF.mv mv2 (fun k hk e => n1v k hk e) _ _ rf1)
    have sv3 := sv2.mv mv3 (fun k hk e => n2q (e ▸ hk))
    obtain ⟨g', o', c', hv2', rs3⟩ : ∃ g' o' c', v2 = slv g' o' xs1.length c' ∧ RS V3 g' o' c' xs1 := by
      rcases sv3 with ⟨_, e⟩ | s
      · rw [e] at hp1; simp at hp1
      · exact s
    have hso := sort_any rs3 hp1 (by omega)
    rw [hv2] at hrun a1 hV3
    have hc12 := m12.cell (a := ⟨q, 1, none⟩) e12 h.c1
    rw [hv'] at hc12
    refine ⟨pv2, xs1.length, cv2, V2, hrun, hc12, g1, V3, hV3, a1, ?_⟩
    rw [← hv2, hv2']
    refine hso.mono ?_
    rintro e V4 ⟨rfl, ys, yp, ysr, rs4, cv4⟩
    have mv4 : Mv (fun k => k = g') V3 V4 := cv4.mv.mono fun k _ s => by obtain ⟨j, s, _⟩ := s; exact s
    have ng' : ¬ q = g' := fun e => n2q (by rw [hv2']; exact congrArg some e.symm)
    have nBg : ∀ b, B1 b → ¬ b = g' := fun b hb' e => n2B b hb' (by rw [hv2']; exact congrArg some e.symm)
    obtain ⟨F', fp, rf4⟩ := RF.perm yp (RF.mv mv4 nBg _ _ rf3)
    have lq3 : q < V3.heap.size := cell_lt a0
    have hyl : ys.length = xs1.length := yp.length_eq
    refine ⟨rfl, ⟨F', fp, ?_, slv g' o' ys.length c', ys, B1, ⟨mv4.cell (a := ⟨q, 0, none⟩) ng' a0, ?_, mv4.cell (a := ⟨q, 2, none⟩) ng' a2, mv4.cell (a := ⟨q, 3, none⟩) ng' a3, (mv4.froz (a := ⟨q, 1, none⟩) ng' lq3).trans b1, (mv4.froz (a := ⟨q, 2, none⟩) ng' lq3).trans b2, (mv4.froz (a := ⟨q, 3, none⟩) ng' lq3).trans b3, .inr ⟨g', o', c', rfl, rs4⟩, rf4, fun e => ng' (by injection e with e; exact e.symm), fun k hk => ⟨n1q k hk, fun e => nBg k hk (by injection e with e; exact e.symm)⟩, fun k hk => ?_, by omega, ((h.xt.mv m12 e12 lq).cv cv3 (fun j hj s => by omega) lq2).mv mv4 ng' lq3⟩, ?_, gr1w, ?_⟩⟩
    · have t := rf4.turns
      have p1 : (ys.map (·.t)).Pairwise (fun a b => a ≤ b) := by rw [List.pairwise_map]; exact ysr
      rw [← t, List.pairwise_map] at p1
      exact p1
    · rw [hyl, ← hv2', hv2]
      exact mv4.cell (a := ⟨q, 1, none⟩) ng' a1
    · have := lo1 k hk
      have := mv2.size
      have := mv3.size
      have := mv4.size
      omega
    · refine ((m12.mono (fun k _ e => by rcases e with e | e; exact .inr (.inr e); exact .inr (.inl e))).trans' (mv3.mono (fun k _ e => .inl e))).trans (E' := fun k => k = g') (fun k e => ?_) mv4
      have hg : nbk v2 = some k := by rw [hv2', e]; rfl
      rcases at2 with s | ⟨k', s, hk'⟩
      · exact .inl (.inr (.inl (s ▸ hg)))
      · rw [hg] at s; injection s with s; exact .inr (by omega)
    · have hg : nbk (slv g' o' ys.length c') = nbk v2 := by rw [hv2']; rfl
      rw [hg]
      rcases at2 with s | ⟨k', s, hk'⟩
      · exact .inl s
      · exact .inr ⟨k', s, by omega⟩
  have hc1 : w.cell? ⟨q, 1, none⟩ = some (.slice pv 0 cv) := by rw [← hv']; exact h.c1
  have hbq : Hid (∀ w1, Below w.heap.size w w1 → w1.drew.cell? ⟨q, 1, none⟩ = some (.slice pv 0 cv)) := fun w1 hb => bcell hb (cell_lt hc1) hc1
  rw [hnt]
  have hne : ¬ nt = 0 := by omega
  have hneI : ((nt : Int) == 0) = false := by simp; omega
  clear h hls hB nv hv' hN
  unfold qp slv at *
  go_enter Tryz.func46, Tryz.ntmps46
  go_wp2_with fail
  refine hE.out.mono ?_
  rintro e w1 ⟨rfl, hb⟩
  have hL := hidP (hL.out w1 hb)
  have hS := hbq.out w1 hb
  clear hb hE hbq hc1
  go_wp2_with fail
  refine Zs.region (S := fun W => W.cell? ⟨q, 1, none⟩ = some (.slice pv 0 cv)) 11 (by kernel_rfl) ?_
  refine Zs.pure (i := 0) (oi := ⟨some 14, _, _, _, _, _⟩) (v := ?v0) rfl (by kernel_rfl) (by kernel_rfl) (by kernel_rfl) (by decide) (fun _ _ _ h => h) (Or.inl ⟨by rfl, ?hy0⟩) hS ?_
  case hy0 => (intro w hSw; (try dsimp only at hSw); go_simp; try with_reducible rfl)
  simp only [Act.put, List.setIfInBounds_toArray, List.set_cons_zero, List.set_cons_succ]
  refine Zs.pure (i := 1) (oi := ⟨some 15, _, _, _, _, _⟩) (v := ?v1) rfl (by kernel_rfl) (by kernel_rfl) (by kernel_rfl) (by decide) (fun _ _ _ h => h) (Or.inl ⟨by rfl, ?hy1⟩) hS ?_
  case hy1 => (intro w hSw; (try dsimp only at hSw); go_simp; try with_reducible rfl)
  simp only [Act.put, List.setIfInBounds_toArray, List.set_cons_zero, List.set_cons_succ]
  refine Zs.pure (i := 2) (oi := ⟨some 16, _, _, _, _, _⟩) (v := ?v2) rfl (by kernel_rfl) (by kernel_rfl) (by kernel_rfl) (by decide) (fun _ _ _ h => h) (Or.inl ⟨by rfl, ?hy2⟩) hS ?_
  case hy2 => (intro w hSw; (try dsimp only at hSw); go_simp; try with_reducible rfl)
  simp only [Act.put, List.setIfInBounds_toArray, List.set_cons_zero, List.set_cons_succ]
  refine Zs.pure (i := 3) (oi := ⟨some 17, _, _, _, _, _⟩) (v := ?v3) rfl (by kernel_rfl) (by kernel_rfl) (by kernel_rfl) (by decide) (fun _ _ _ h => h) (Or.inl ⟨by rfl, ?hy3⟩) hS ?_
  case hy3 => (intro w hSw; (try dsimp only at hSw); go_simp; try with_reducible rfl)
  simp only [Act.put, List.setIfInBounds_toArray, List.set_cons_zero, List.set_cons_succ]
  refine Zs.take (i := 4) (oi := ⟨some 18, _, _, _, _, _⟩) (v := .slice pv 0 cv) rfl (by kernel_rfl) (by kernel_rfl) (by kernel_rfl) (by decide) (by kernel_rfl) (by kernel_rfl) (fun _ _ _ h => h) (Or.inl ⟨by rfl, ?hy4⟩) hS ?_
  case hy4 => (intro w hSw; (try dsimp only at hSw); go_simp; try with_reducible rfl)
  simp only [Act.put, List.setIfInBounds_toArray, List.set_cons_zero, List.set_cons_succ]
  refine Zs.pure (i := 5) (oi := ⟨some 19, _, _, _, _, _⟩) (v := ?v5) rfl (by kernel_rfl) (by kernel_rfl) (by kernel_rfl) (by decide) (fun _ _ _ h => h) (Or.inl ⟨by rfl, ?hy5⟩) hS ?_
  case hy5 => (intro w hSw; (try dsimp only at hSw); go_simp; try with_reducible rfl)
  simp only [Act.put, List.setIfInBounds_toArray, List.set_cons_zero, List.set_cons_succ]
  refine Zs.pure (i := 6) (oi := ⟨some 20, _, _, _, _, _⟩) (v := ?v6) rfl (by kernel_rfl) (by kernel_rfl) (by kernel_rfl) (by decide) (fun _ _ _ h => h) (Or.inl ⟨by rfl, ?hy6⟩) hS ?_
  case hy6 => (intro w hSw; (try dsimp only at hSw); go_simp; try with_reducible rfl)
  simp only [Act.put, List.setIfInBounds_toArray, List.set_cons_zero, List.set_cons_succ]
  refine Zs.one (i := 7) (oi := ⟨some 21, _, _, _, _, _⟩) (by kernel_rfl) rfl (fun K hK => ?_)
  go_simp
  refine hL.out.mono ?_
  rintro e V1 ⟨xs1, rfl, h1⟩
  obtain ⟨hS1, pv2, nv2, cv2, V2, hrun, hS2, h2⟩ := h1
  have h2H := hidP h2
  clear h2 hL
  go_wp2_with fail
  refine hK.out _ _ (fun _ => hS1) ?_
  clear hK K
  try simp only [Act.put, List.setIfInBounds_toArray, List.set_cons_zero, List.set_cons_succ]
  refine Zs.one (i := 8) (oi := ⟨some 22, _, _, _, _, _⟩) (by kernel_rfl) rfl (fun K hK => ?_)
  refine step_append_run rfl (.tmp 18) (.tmp 21) 52 rfl _ _ _ _ rfl rfl hrun ?_
  refine hK.out _ _ (fun _ => hS2) ?_
  clear hK K
  try simp only [Act.put, List.setIfInBounds_toArray, List.set_cons_zero, List.set_cons_succ]
  refine Zs.pure (i := 9) (oi := ⟨some 23, _, _, _, _, _⟩) (v := ?v9) rfl (by kernel_rfl) (by kernel_rfl) (by kernel_rfl) (by decide) (fun _ _ _ h => h) (Or.inl ⟨by rfl, ?hy9⟩) hS2 ?_
  case hy9 => (intro w hSw; (try dsimp only at hSw); go_simp; try with_reducible rfl)
  simp only [Act.put, List.setIfInBounds_toArray, List.set_cons_zero, List.set_cons_succ]
  refine Zs.pure (i := 10) (oi := ⟨some 24, _, _, _, _, _⟩) (v := ?v10) rfl (by kernel_rfl) (by kernel_rfl) (by kernel_rfl) (by decide) (fun _ _ _ h => h) (Or.inl ⟨by rfl, ?hy10⟩) hS2 ?_
  case hy10 => (intro w hSw; (try dsimp only at hSw); go_simp; try with_reducible rfl)
  simp only [Act.put, List.setIfInBounds_toArray, List.set_cons_zero, List.set_cons_succ]
  obtain ⟨hf2, V3, hV3, c3, hsort⟩ := h2H.out
  have hsH := hidP hsort
  clear hsort h2H hrun
  refine Zs.one (i := 11) (oi := ⟨none, _, _, _, _, _⟩) (by kernel_rfl) rfl (fun K hK => ?_)
  go_simp
  refine hK.out _ _ (fun q => absurd q (by decide)) ?_
  clear hK K
  refine Zs.done (by kernel_rfl) ?_ _
  go_wp2_with fail
  refine hsH.out.mono ?_
  rintro e V4 ⟨rfl, hfin⟩
  have hfH := hidP hfin
  clear hfin hsH
  go_wp2_with fail
  go_end0
  exact ⟨rfl, hfH.out⟩
end Go.Proofs.YtdcidlgmnnaahaaGreat.Qw
