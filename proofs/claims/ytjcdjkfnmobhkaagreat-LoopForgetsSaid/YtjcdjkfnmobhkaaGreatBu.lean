import Derived.Test.YtjcdjkfnmobhkaaGreatBt
/- LoopForgets: plain. -/
namespace Go.Proofs.YtjcdjkfnmobhkaaGreat
open Go.RowKit Go.Shelf Go.Lib
def nm (k : Nat) : ByteArray := if k = 0 then ⟨#[97]⟩ else if k = 1 then ⟨#[98]⟩ else ⟨#[99]⟩
def wh (j : Nat) : ByteArray := if j = 0 then ⟨#[119]⟩ else if j = 1 then ⟨#[120]⟩ else if j = 2 then ⟨#[121]⟩ else ⟨#[122]⟩
theorem nm_inj {i j : Nat} (hi : i < 3) (hj : j < 3) (h : nm i = nm j) : i = j := by
  match i, hi, j, hj with
  | 0, _, 0, _ => rfl
  | 1, _, 1, _ => rfl
  | 2, _, 2, _ => rfl
  | 0, _, 1, _ => simp [nm] at h
  | 0, _, 2, _ => simp [nm] at h
  | 1, _, 0, _ => simp [nm] at h
  | 1, _, 2, _ => simp [nm] at h
  | 2, _, 0, _ => simp [nm] at h
  | 2, _, 1, _ => simp [nm] at h
theorem wh_inj {i j : Nat} (hi : i < 4) (hj : j < 4) (h : wh i = wh j) : i = j := by
  match i, hi, j, hj with
  | 0, _, 0, _ => rfl
  | 1, _, 1, _ => rfl
  | 2, _, 2, _ => rfl
  | 3, _, 3, _ => rfl
  | 0, _, 1, _ => simp [wh] at h
  | 0, _, 2, _ => simp [wh] at h
  | 0, _, 3, _ => simp [wh] at h
  | 1, _, 0, _ => simp [wh] at h
  | 1, _, 2, _ => simp [wh] at h
  | 1, _, 3, _ => simp [wh] at h
  | 2, _, 0, _ => simp [wh] at h
  | 2, _, 1, _ => simp [wh] at h
  | 2, _, 3, _ => simp [wh] at h
  | 3, _, 0, _ => simp [wh] at h
  | 3, _, 1, _ => simp [wh] at h
  | 3, _, 2, _ => simp [wh] at h
theorem wh_ex {j : Nat} (hj : j < 4) : (⟨#[119, 120, 121, 122]⟩ : ByteArray).extract j (j + 1) = wh j := by
  match j, hj with
  | 0, _ => rfl
  | 1, _ => rfl
  | 2, _ => rfl
  | 3, _ => rfl
theorem nm_len (k : Nat) : (nm k).toList.length ≤ 300 := by
  rw [Go.Lib.toList_data]
  unfold nm
  split
  · decide
  · split <;> decide
theorem wh_len (j : Nat) : (wh j).toList.length ≤ 300 := by
  rw [Go.Lib.toList_data]
  unfold wh
  split
  · decide
  · split
    · decide
    · split <;> decide
def kk (k j : Nat) : TK := ⟨(nm k, wh j), nm_len k, wh_len j⟩
theorem kk_inj {k j k' j' : Nat} (h1 : k < 3) (h2 : j < 4) (h3 : k' < 3) (h4 : j' < 4) (h : kk k j = kk k' j') : k = k' ∧ j = j' := by
  have e := congrArg (fun t : TK => t.1) h
  have e1 : nm k = nm k' := congrArg Prod.fst e
  have e2 : wh j = wh j' := congrArg Prod.snd e
  exact ⟨nm_inj h1 h3 e1, wh_inj h2 h4 e2⟩
/-- What a law keeps beside the loop. -/
structure Fp (L : List Wt) (T : List Du) (tv : Nat → Bool) (ev : Nat → Nat) : Prop where
  t1 : ∀ k j, k < 3 → j < 4 → (tv (4 * k + j) = true ↔ ∃ d ∈ T, d.k = kk k j)
  t2 : ∀ d ∈ T, ∃ k j, k < 3 ∧ j < 4 ∧ d.k = kk k j
  l1 : ∀ k, k < 3 → (L.filter fun x => decide (x.u = nm k)).length = ev k
  l2 : ∀ x ∈ L, ∃ k, k < 3 ∧ x.u = nm k
def updB (tv : Nat → Bool) (a : Nat) : Nat → Bool := fun i => if i = a then true else tv i
def updE (ev : Nat → Nat) (a : Nat) : Nat → Nat := fun i => if i = a then ev a + 1 else ev i
theorem Fp.set {L : List Wt} {T : List Du} {tv : Nat → Bool} {ev : Nat → Nat} (h : Fp L T tv ev) {k j : Nat} (hk : k < 3) (hj : j < 4) (t : Int) : Fp L (setT (kk k j) t T) (updB tv (4 * k + j)) ev := by
  refine ⟨fun k' j' hk' hj' => ?_, fun d hd => ?_, h.l1, h.l2⟩
  · unfold updB
    by_cases e : 4 * k' + j' = 4 * k + j
    · rw [if_pos e]
      have e1 : k' = k := by omega
      have e2 : j' = j := by omega
      subst e1 e2
      exact ⟨fun _ => ⟨mkD (kk k' j') t, setT_mem.2 (.inl rfl), rfl⟩, fun _ => rfl⟩
    · rw [if_neg e, h.t1 k' j' hk' hj']
      constructor
      · rintro ⟨d, hd, e1⟩
        refine ⟨d, setT_mem.2 (.inr ⟨hd, fun e2 => ?_⟩), e1⟩
        have := kk_inj hk' hj' hk hj (e1.symm.trans e2)
        omega
      · rintro ⟨d, hd, e1⟩
        rcases setT_mem.1 hd with rfl | ⟨hd, _⟩
        · have e2 : kk k j = kk k' j' := e1
          have := kk_inj hk hj hk' hj' e2
          omega
        · exact ⟨d, hd, e1⟩
  · rcases setT_mem.1 hd with rfl | ⟨hd, _⟩
    · exact ⟨k, j, hk, hj, rfl⟩
    · exact h.t2 d hd
theorem Fp.push {L : List Wt} {T : List Du} {tv : Nat → Bool} {ev : Nat → Nat} (h : Fp L T tv ev) {v : Wt} {k : Nat} (hk : k < 3) (hv : v.u = nm k) : Fp (insA keyW v L) T tv (updE ev k) := by
  refine ⟨h.t1, h.t2, fun k' hk' => ?_, fun x hx => ?_⟩
  · rw [((insA_perm keyW v L).filter _).length_eq]
    unfold updE
    by_cases e : k' = k
    · subst e
      rw [if_pos rfl, List.filter_cons_of_pos (by simpa using hv), List.length_cons, h.l1 k' hk']
    · rw [if_neg e, List.filter_cons_of_neg (by simpa using fun z => e (nm_inj hk' hk (z.symm.trans hv))), h.l1 k' hk']
  · rcases (insA_mem keyW v x L).1 hx with rfl | hx
    · exact ⟨k, hk, hv⟩
    · exact h.l2 x hx
theorem flen {α : Type} (p : α → Bool) : ∀ A : List α, (A.filter fun x => !p x).length + (A.filter p).length = A.length
  | [] => rfl
  | x :: A => by
    have := flen p A
    cases e : p x
    · rw [List.filter_cons_of_pos (by simp [e]), List.filter_cons_of_neg (by simp [e]), List.length_cons, List.length_cons]; omega
    · rw [List.filter_cons_of_neg (by simp [e]), List.filter_cons_of_pos (by simp [e]), List.length_cons, List.length_cons]; omega
theorem for_ {α : Type} {p q : α → Bool} : ∀ {A : List α}, (∀ x ∈ A, p x = true → q x = false) → (A.filter fun x => p x || q x).length = (A.filter p).length + (A.filter q).length
  | [], _ => rfl
  | x :: A, h => by
    have ih := for_ (p := p) (q := q) (A := A) fun y hy => h y (List.mem_cons_of_mem _ hy)
    have hx := h x (List.mem_cons_self ..)
    cases e : p x
    · cases e2 : q x
      · rw [List.filter_cons_of_neg (by simp [e, e2]), List.filter_cons_of_neg (by simp [e]), List.filter_cons_of_neg (by simp [e2]), ih]
      · rw [List.filter_cons_of_pos (by simp [e, e2]), List.filter_cons_of_neg (by simp [e]), List.filter_cons_of_pos (by simp [e2]), List.length_cons, List.length_cons, ih]; omega
    · have e2 := hx e
      rw [List.filter_cons_of_pos (by simp [e, e2]), List.filter_cons_of_pos (by simp [e]), List.filter_cons_of_neg (by simp [e2]), List.length_cons, List.length_cons, ih]; omega
theorem one_key {k : TK} : ∀ {T : List Du}, T.Pairwise (fun a b => a.k ≠ b.k) → (T.filter fun d => decide (d.k = k)).length = if T.any (fun d => decide (d.k = k)) = true then 1 else 0
  | [], _ => rfl
  | x :: T, h => by
    obtain ⟨h1, h2⟩ := List.pairwise_cons.1 h
    have ih := one_key (k := k) h2
    by_cases e : x.k = k
    · have hn : T.filter (fun d => decide (d.k = k)) = [] := List.filter_eq_nil_iff.2 fun d hd => by
        have := h1 d hd
        simp only [decide_eq_true_eq]
        exact fun z => this (e.trans z.symm)
      rw [List.filter_cons_of_pos (by simpa using e), List.length_cons, hn, List.any_cons, if_pos (by simp [e])]; rfl
    · rw [List.filter_cons_of_neg (by simpa using e), ih, List.any_cons]
      simp [e]
def nI (tv : Nat → Bool) (k : Nat) : Nat → Nat
  | 0 => 0
  | j + 1 => nI tv k j + if tv (4 * k + j) = true then 1 else 0
theorem nI_le (tv : Nat → Bool) (k : Nat) : ∀ j, nI tv k j ≤ j
  | 0 => Nat.le_refl _
  | j + 1 => by have := nI_le tv k j; unfold nI; split <;> omega
def inJ (k j : Nat) (d : Du) : Bool := (List.range j).any fun i => decide (d.k = kk k i)
theorem inJ_iff {k j : Nat} {d : Du} : inJ k j d = true ↔ ∃ i, i < j ∧ d.k = kk k i := by
  unfold inJ; simp
theorem Fp.cnt {L : List Wt} {T : List Du} {tv : Nat → Bool} {ev : Nat → Nat} (h : Fp L T tv ev) (hT : Ts T) {k : Nat} (hk : k < 3) : ∀ j, j ≤ 4 → (T.filter (inJ k j)).length = nI tv k j
  | 0, _ => by
    have : T.filter (inJ k 0) = [] := List.filter_eq_nil_iff.2 fun d _ e => by obtain ⟨i, hi, _⟩ := inJ_iff.1 e; omega
    rw [this]; rfl
  | j + 1, hj => by
    have ih := Fp.cnt h hT hk j (by omega)
    have e : T.filter (inJ k (j + 1)) = T.filter fun d => inJ k j d || decide (d.k = kk k j) := by
      refine List.filter_congr fun d _ => ?_
      rw [Bool.eq_iff_iff, inJ_iff, Bool.or_eq_true, inJ_iff, decide_eq_true_iff]
      constructor
      · rintro ⟨i, hi, e⟩
        by_cases z : i = j
        · subst z; exact .inr e
        · exact .inl ⟨i, by omega, e⟩
      · rintro (⟨i, hi, e⟩ | e)
        · exact ⟨i, by omega, e⟩
        · exact ⟨j, by omega, e⟩
    rw [e, for_ fun d _ hd => ?_, ih, one_key hT.dk]
    · have : (T.any fun d => decide (d.k = kk k j)) = tv (4 * k + j) := by
        rw [Bool.eq_iff_iff, h.t1 k j hk (by omega), List.any_eq_true]
        simp
      rw [this]; rfl
    · obtain ⟨i, hi, e1⟩ := inJ_iff.1 hd
      refine decide_eq_false fun e2 => ?_
      have := kk_inj hk (by omega) hk (by omega) (e1.symm.trans e2)
      omega
theorem Fp.cntU {L : List Wt} {T : List Du} {tv : Nat → Bool} {ev : Nat → Nat} (h : Fp L T tv ev) (hT : Ts T) {k : Nat} (hk : k < 3) : (T.filter fun d => decide (d.u = nm k)).length = nI tv k 4 := by
  rw [← h.cnt hT hk 4 (Nat.le_refl _)]
  congr 1
  refine List.filter_congr fun d hd => ?_
  rw [Bool.eq_iff_iff, decide_eq_true_iff, inJ_iff]
  constructor
  · intro e
    obtain ⟨k', j, hk', hj, e2⟩ := h.t2 d hd
    have e3 : d.u = nm k' := congrArg (fun t : TK => t.1.1) e2
    have : k = k' := nm_inj hk hk' (e.symm.trans e3)
    subst this
    exact ⟨j, hj, e2⟩
  · rintro ⟨i, hi, e⟩
    exact congrArg (fun t : TK => t.1.1) e
theorem sum3 {α : Type} (f : α → ByteArray) : ∀ {A : List α}, (∀ x ∈ A, ∃ k, k < 3 ∧ f x = nm k) → A.length = (A.filter fun x => decide (f x = nm 0)).length + (A.filter fun x => decide (f x = nm 1)).length + (A.filter fun x => decide (f x = nm 2)).length
  | [], _ => rfl
  | x :: A, h => by
    have ih := sum3 f (A := A) fun y hy => h y (List.mem_cons_of_mem _ hy)
    obtain ⟨k, hk, e⟩ := h x (List.mem_cons_self ..)
    have key : ∀ i, i < 3 → (((x :: A).filter fun x => decide (f x = nm i)).length = (A.filter fun x => decide (f x = nm i)).length + if k = i then 1 else 0) := fun i hi => by
      by_cases z : k = i
      · subst z; rw [List.filter_cons_of_pos (by simpa using e), List.length_cons, if_pos rfl]
      · rw [List.filter_cons_of_neg (by simpa using fun q => z (nm_inj hk hi (e.symm.trans q))), if_neg z, Nat.add_zero]
    rw [key 0 (by omega), key 1 (by omega), key 2 (by omega), List.length_cons, ih]
    match k, hk with
    | 0, _ => simp; omega
    | 1, _ => simp; omega
    | 2, _ => simp; omega
/-- What the law counts: the timers of the unit x, those of others, up to unit k. -/
def nX (tv : Nat → Bool) (x : Nat) : Nat → Nat
  | 0 => 0
  | k + 1 => nX tv x k + if k = x then nI tv k 4 else 0
def oX (tv : Nat → Bool) (x : Nat) : Nat → Nat
  | 0 => 0
  | k + 1 => oX tv x k + if k = x then 0 else nI tv k 4
theorem Fp.all {L : List Wt} {T : List Du} {tv : Nat → Bool} {ev : Nat → Nat} (h : Fp L T tv ev) (hT : Ts T) {x : Nat} (hx : x < 3) :
    (goneT (nm x) T).length = oX tv x 3 ∧ T.length = oX tv x 3 + nX tv x 3 ∧ (goneL (nm x) L).length + ev x = ev 0 + ev 1 + ev 2 ∧ L.length = ev 0 + ev 1 + ev 2 ∧ oX tv x 3 ≤ 8 ∧ nX tv x 3 ≤ 4 := by
  have c := fun k (hk : k < 3) => h.cntU hT hk
  have e := fun k (hk : k < 3) => h.l1 k hk
  have s1 := sum3 (fun d : Du => d.u) (A := T) fun d hd => by
    obtain ⟨k, j, hk, _, e⟩ := h.t2 d hd
    exact ⟨k, hk, congrArg (fun t : TK => t.1.1) e⟩
  have s2 := sum3 (fun d : Wt => d.u) (A := L) h.l2
  have f1 := flen (fun d : Du => decide (d.u = nm x)) T
  have f2 := flen (fun d : Wt => decide (d.u = nm x)) L
  have b := fun k => nI_le tv k 4
  have b0 := b 0
  have b1 := b 1
  have b2 := b 2
  rw [c 0 (by omega), c 1 (by omega), c 2 (by omega)] at s1
  rw [e 0 (by omega), e 1 (by omega), e 2 (by omega)] at s2
  rw [c x hx] at f1
  rw [e x hx] at f2
  unfold goneT goneL
  match x, hx with
  | 0, _ => simp only [nX, oX] at *; simp at *; omega
  | 1, _ => simp only [nX, oX] at *; simp at *; omega
  | 2, _ => simp only [nX, oX] at *; simp at *; omega
theorem gone2T (u : ByteArray) (T : List Du) : goneT u (goneT u T) = goneT u T := by
  unfold goneT; rw [List.filter_filter]; simp
theorem gone2L (u : ByteArray) (L : List Wt) : goneL u (goneL u L) = goneL u L := by
  unfold goneL; rw [List.filter_filter]; simp
def aI (tv : Nat → Bool) (x k j : Nat) : Nat := nX tv x k + if k = x then nI tv k j else 0
def oI (tv : Nat → Bool) (x k j : Nat) : Nat := oX tv x k + if k = x then 0 else nI tv k j
theorem aI_zero (tv : Nat → Bool) (x k : Nat) : aI tv x k 0 = nX tv x k ∧ oI tv x k 0 = oX tv x k := by unfold aI oI nI; simp
theorem aI_four (tv : Nat → Bool) (x k : Nat) : aI tv x k 4 = nX tv x (k + 1) ∧ oI tv x k 4 = oX tv x (k + 1) := ⟨rfl, rfl⟩
theorem aI_t {tv : Nat → Bool} {x k j : Nat} (h : k = x) (ht : tv (4 * k + j) = true) : aI tv x k (j + 1) = aI tv x k j + 1 ∧ oI tv x k (j + 1) = oI tv x k j := by
  unfold aI oI
  rw [if_pos h, if_pos h, if_pos h, if_pos h]
  have : nI tv k (j + 1) = nI tv k j + 1 := by show nI tv k j + (if tv (4 * k + j) = true then 1 else 0) = _; rw [if_pos ht]
  omega
theorem aI_o {tv : Nat → Bool} {x k j : Nat} (h : ¬ k = x) (ht : tv (4 * k + j) = true) : aI tv x k (j + 1) = aI tv x k j ∧ oI tv x k (j + 1) = oI tv x k j + 1 := by
  unfold aI oI
  rw [if_neg h, if_neg h, if_neg h, if_neg h]
  have : nI tv k (j + 1) = nI tv k j + 1 := by show nI tv k j + (if tv (4 * k + j) = true then 1 else 0) = _; rw [if_pos ht]
  omega
theorem aI_f {tv : Nat → Bool} {x k j : Nat} (ht : tv (4 * k + j) = false) : aI tv x k (j + 1) = aI tv x k j ∧ oI tv x k (j + 1) = oI tv x k j := by
  have : nI tv k (j + 1) = nI tv k j := by show nI tv k j + (if tv (4 * k + j) = true then 1 else 0) = _; rw [if_neg (by rw [ht]; decide)]; rfl
  unfold aI oI
  rw [this]; exact ⟨rfl, rfl⟩
theorem nX_le (tv : Nat → Bool) (x : Nat) : ∀ k, nX tv x k ≤ 4 * k ∧ oX tv x k ≤ 4 * k
  | 0 => ⟨Nat.le_refl _, Nat.le_refl _⟩
  | k + 1 => by
    have h := nX_le tv x k
    have h2 := nI_le tv k 4
    unfold nX oX
    constructor
    · split <;> omega
    · split <;> omega
theorem aI_le (tv : Nat → Bool) (x : Nat) {k j : Nat} (hk : k ≤ 3) (hj : j ≤ 4) : aI tv x k j ≤ 16 ∧ oI tv x k j ≤ 16 := by
  have h := nX_le tv x k
  have h2 := nI_le tv k j
  unfold aI oI
  constructor
  · split <;> omega
  · split <;> omega
end Go.Proofs.YtjcdjkfnmobhkaaGreat
/- LoopForgets: the closure, the taker. -/
namespace Go.Proofs.YtjcdjkfnmobhkaaGreat
open Go.RowKit Go.Shelf Go.Lib
attribute [local go_sem] Oper.semAt_some
set_option maxRecDepth 100000 in
set_option maxHeartbeats 2000000 in
theorem clos_any (x : Du) {k1 k2 k3 xi : Nat} {c : Int} {W : World} (c1 : W.cell? ⟨k1, 0, none⟩ = some (.int .i64 c)) (f1 : W.frozen? ⟨k1, 0, none⟩ = false) (c2 : W.cell? ⟨k2, xi, none⟩ = some (.string (nm xi))) (c3 : W.cell? ⟨k3, 0, none⟩ = some (.int .i64 (xi : Nat))) (hxi : xi < 3) (hc0 : 0 ≤ c) (hc1 : c ≤ 90) (hne : x.u ≠ nm xi) (n2 : k2 ≠ k1) (n3 : k3 ≠ k1) :
    Calls Tryz.prog 29 #[.agg #[.string x.u, .string x.w, .int .i64 x.t], .pointer (some ⟨k1, 0, none⟩), .pointer (some ⟨k2, 0, none⟩), .pointer (some ⟨k3, 0, none⟩)] W fun e V => e = .returned (.bool true) ∧ Mv (fun k => k = k1) W V ∧ V.cell? ⟨k1, 0, none⟩ = some (.int .i64 (c + 1)) ∧ V.frozen? ⟨k1, 0, none⟩ = false ∧ V.cell? ⟨k2, xi, none⟩ = some (.string (nm xi)) ∧ V.cell? ⟨k3, 0, none⟩ = some (.int .i64 (xi : Nat)) := by
  obtain ⟨N, hN⟩ : ∃ N, W.heap.size = N := ⟨_, rfl⟩
  obtain ⟨xu, hxu⟩ : ∃ xu, x.u = xu := ⟨_, rfl⟩
  obtain ⟨xw, hxw⟩ : ∃ xw, x.w = xw := ⟨_, rfl⟩
  obtain ⟨nx, hnx⟩ : ∃ nx, nm xi = nx := ⟨_, rfl⟩
  rw [hnx] at c2 hne ⊢
  rw [hxu] at hne ⊢
  rw [hxw]
  obtain ⟨W1, hW1⟩ : ∃ W1, W.alloc (.cells #[.string xu, .string xw, .int .i64 x.t] 53) = W1 := ⟨_, rfl⟩
  obtain ⟨W2, hW2⟩ : ∃ W2, W1.setCell ⟨k1, 0, none⟩ (.int .i64 (c + 1)) = W2 := ⟨_, rfl⟩
  have b1 : Below W.heap.size W W1 := by rw [← hW1]; exact (Below.refl _ _).alloc (Nat.le_refl _) _
  have l1 := cell_lt c1
  have d0 : W1.cell? ⟨N, 0, none⟩ = some (.string xu) := by rw [← hW1]; exact cell_at hN rfl
  have d1 : W1.cell? ⟨k1, 0, none⟩ = some (.int .i64 c) := bcell b1 l1 c1
  have g1 : W1.frozen? ⟨k1, 0, none⟩ = false := (bfroz b1 l1).trans f1
  have d2 : W1.cell? ⟨k2, xi, none⟩ = some (.string nx) := bcell b1 (cell_lt c2) c2
  have d3 : W1.cell? ⟨k3, 0, none⟩ = some (.int .i64 (xi : Nat)) := bcell b1 (cell_lt c3) c3
  have cv := Cv.one W1 k1 0 (.int .i64 (c + 1))
  rw [hW2] at cv
  have e0 : W2.cell? ⟨N, 0, none⟩ = some (.string xu) := cv.cell (fun s => by have := s.1; simp only at l1; omega) d0
  have e1 : W2.cell? ⟨k1, 0, none⟩ = some (.int .i64 (c + 1)) := by rw [← hW2]; exact World.cell?_setCell_same _ _ _ d1
  have e2 : W2.cell? ⟨k2, xi, none⟩ = some (.string nx) := cv.cell (fun s => n2 s.1) d2
  have e3 : W2.cell? ⟨k3, 0, none⟩ = some (.int .i64 (xi : Nat)) := cv.cell (fun s => n3 s.1) d3
  have f2 : W2.frozen? ⟨k1, 0, none⟩ = false := (cv.fr k1 0 (Nat.lt_of_lt_of_le l1 b1.size)).trans g1
  have mv : Mv (fun k => k = k1) W W2 := (Mv.below b1).trans' (cv.mv.mono fun k _ s => by obtain ⟨j, s, _⟩ := s; exact s)
  have mvH := hidP mv
  have hbe : (xu.toList == nx.toList) = false := by rw [beqT]; simpa using hne
  have hlt : c + 1 < 100 := by omega
  have hw : IntKind.i64.wrap (c + 1) = c + 1 := by rw [IntKind.wrap_i64]; omega
  have hxI : (xi : Int) < 3 := by omega
  have fin : Hid (∀ nq, Mv (fun k => k = k1) W (W2.drewN nq)) := fun nq => ⟨mv.os, mv.tape, mv.output, mv.size, mv.block⟩
  clear b1 l1 c1 c2 c3 f1 cv mv hne hxi
  go_enter Tryz.func29, Tryz.ntmps29
  go_wp2_with (first | rw [hW1] | rw [hW2])
  clear d0 d1 d2 d3 g1 hW1 hW2
  go_quiet (fail)
  go_wp2_with fail
  go_ret
  exact ⟨by first | rfl | simp, fin.out nq, e1, f2, e2, e3⟩
/-- The taker: what is counted. -/
def JF (k1 k2 k3 xi tot : Nat) (rest : List Du) (E : Nat → Prop) (W : World) : Prop :=
  (∀ k, E k ↔ k = k1) ∧ rest.length ≤ tot ∧ (∀ d ∈ rest, d.u ≠ nm xi) ∧ W.cell? ⟨k1, 0, none⟩ = some (.int .i64 (((tot - rest.length : Nat) : Int))) ∧ W.frozen? ⟨k1, 0, none⟩ = false ∧ W.cell? ⟨k2, xi, none⟩ = some (.string (nm xi)) ∧ W.cell? ⟨k3, 0, none⟩ = some (.int .i64 (xi : Nat))
theorem JF.ter {k1 k2 k3 xi tot B : Nat} (h2 : k2 < B) (h3 : k3 < B) : Ter B (JF k1 k2 k3 xi tot) :=
  ⟨fun s E W V h m => by
    obtain ⟨a1, a2, a3, a4, a5, a6, a7⟩ := h
    have n1 : ¬ ((¬ E k1) ∧ B ≤ k1) := fun f => f.1 ((a1 k1).2 rfl)
    exact ⟨a1, a2, a3, m.cell (a := ⟨k1, 0, none⟩) n1 a4, (m.froz (a := ⟨k1, 0, none⟩) n1 (cell_lt a4)).trans a5, m.cell (a := ⟨k2, xi, none⟩) (fun f => by have := f.2; dsimp only at this; omega) a6, m.cell (a := ⟨k3, 0, none⟩) (fun f => by have := f.2; dsimp only at this; omega) a7⟩, fun s E W h k hk => by
    obtain ⟨a1, a2, a3, a4, _⟩ := h
    rw [(a1 k).1 hk]; exact cell_lt a4⟩
theorem JF.takes {k1 k2 k3 xi tot : Nat} (hxi : xi < 3) (ht : tot ≤ 90) (n2 : k2 ≠ k1) (n3 : k3 ≠ k1) (x : Du) (rest : List Du) (E : Nat → Prop) (W : World) (h : JF k1 k2 k3 xi tot (x :: rest) E W) :
    Calls Tryz.prog 29 #[.agg #[.string x.u, .string x.w, .int .i64 x.t], .pointer (some ⟨k1, 0, none⟩), .pointer (some ⟨k2, 0, none⟩), .pointer (some ⟨k3, 0, none⟩)] W fun e W' => e = .returned (.bool true) ∧ Mv E W W' ∧ ∃ E', Gr E W E' ∧ JF k1 k2 k3 xi tot rest E' W' := by
  obtain ⟨a1, a2, a3, a4, a5, a6, a7⟩ := h
  rw [List.length_cons] at a2 a4
  refine (clos_any x a4 a5 a6 a7 hxi (by omega) (by omega) (a3 x (List.mem_cons_self ..)) n2 n3).mono ?_
  rintro e V ⟨rfl, m, c1, f1, c2, c3⟩
  have ec : ((tot - (rest.length + 1) : Nat) : Int) + 1 = ((tot - rest.length : Nat) : Int) := by omega
  rw [ec] at c1
  exact ⟨rfl, m.mono fun k _ e => (a1 k).2 e, E, Gr.refl _ _, a1, by omega, fun d hd => a3 d (List.mem_cons_of_mem _ hd), c1, f1, c2, c3⟩
theorem timers_any (lb : Nat) (w : World) : Calls Tryz.prog 28 #[lp lb] w fun e V => e = .returned (.func (.func 53) #[] #[.pointer (some ⟨w.heap.size, 0, none⟩), .pointer (some ⟨w.heap.size + 1, 0, none⟩)]) ∧ V = (w.alloc (.cells #[lp lb] 24)).alloc (.cells #[.int .i64 9223372036854775807] 2) := by
  have hD := hidP (due_any lb 9223372036854775807 w)
  unfold lp at *
  go_enter Tryz.func28, Tryz.ntmps28
  go_wp2_with fail
  refine hD.out.mono ?_
  rintro e V ⟨rfl, rfl⟩
  go_wp2_with fail
  go_ret
  exact ⟨rfl, rfl⟩
/-- All timers, given to the law's closure. -/
theorem timers_all {w : World} {lb n : Nat} {El : Nat → Prop} {L : List Wt} {T : List Du} (hV : Lo w lb El L n T) {k1 k2 k3 xi : Nat} (hxi : xi < 3) (hT : ∀ d ∈ T, d.u ≠ nm xi ∧ d.t ≤ 9223372036854775807) (hl : T.length ≤ 90) (n2 : k2 ≠ k1) (n3 : k3 ≠ k1) (c1 : w.cell? ⟨k1, 0, none⟩ = some (.int .i64 0)) (f1 : w.frozen? ⟨k1, 0, none⟩ = false) (c2 : w.cell? ⟨k2, xi, none⟩ = some (.string (nm xi))) (c3 : w.cell? ⟨k3, 0, none⟩ = some (.int .i64 (xi : Nat))) :
    Calls Tryz.prog 53 #[.func (.func 29) #[] #[.pointer (some ⟨k1, 0, none⟩), .pointer (some ⟨k2, 0, none⟩), .pointer (some ⟨k3, 0, none⟩)], .pointer (some ⟨w.heap.size, 0, none⟩), .pointer (some ⟨w.heap.size + 1, 0, none⟩)] ((w.alloc (.cells #[lp lb] 24)).alloc (.cells #[.int .i64 9223372036854775807] 2)) fun e V => e = .returned (.tuple #[]) ∧ Mv (fun k => k = k1) w V ∧ V.cell? ⟨k1, 0, none⟩ = some (.int .i64 T.length) := by
  obtain ⟨W0, hW0⟩ : ∃ W0, ((w.alloc (.cells #[lp lb] 24)).alloc (.cells #[.int .i64 9223372036854775807] 2)) = W0 := ⟨_, rfl⟩
  have b0 : Below w.heap.size w W0 := by rw [← hW0]; exact ((Below.refl _ _).alloc (Nat.le_refl _) _).alloc (by simp) _
  have z0 : W0.cell? ⟨w.heap.size, 0, none⟩ = some (lp lb) := by rw [← hW0]; exact (Mv.alloc (fun _ => False) _ _).cell (fun h => h) (cell_at rfl rfl)
  have z1 : W0.cell? ⟨w.heap.size + 1, 0, none⟩ = some (.int .i64 9223372036854775807) := by rw [← hW0]; exact cell_at (by simp) rfl
  have ef : (T.filter fun d => decide (d.t ≤ 9223372036854775807)) = T := List.filter_eq_self.2 fun d hd => by simpa using (hT d hd).2
  have lk2 : k2 < W0.heap.size := Nat.lt_of_lt_of_le (cell_lt c2) b0.size
  have lk3 : k3 < W0.heap.size := Nat.lt_of_lt_of_le (cell_lt c3) b0.size
  rw [hW0]
  refine (due_all k1 k2 k3 (fun k => k = k1) W0 (hV.below b0) z0 z1 (JF k1 k2 k3 xi T.length) (JF.ter lk2 lk3) (fun x rest E W h => JF.takes hxi hl n2 n3 x rest E W h) ?_).mono ?_
  · rw [ef]
    exact ⟨fun _ => Iff.rfl, Nat.le_refl _, fun d hd => (hT d hd).1, by rw [Nat.sub_self]; exact bcell b0 (cell_lt c1) c1, (bfroz b0 (cell_lt c1)).trans f1, bcell b0 (cell_lt c2) c2, bcell b0 (cell_lt c3) c3⟩
  · rintro e V ⟨rfl, m, E', g, a1, a2, a3, a4, _⟩
    refine ⟨rfl, (Mv.below b0).trans' m, ?_⟩
    rw [List.length_nil, Nat.sub_zero] at a4
    exact a4
end Go.Proofs.YtjcdjkfnmobhkaaGreat
/- LoopForgets: the loop and the three rows, in memory. -/
namespace Go.Proofs.YtjcdjkfnmobhkaaGreat
open Go.RowKit Go.Shelf Go.Lib
attribute [local go_sem] Oper.semAt_some
structure Fg (w : World) (lb nb tb eb : Nat) (L : List Wt) (n : Nat) (T : List Du) (tv : Nat → Bool) (ev : Nat → Nat) (E : Nat → Prop) (W : World) : Prop where
  lo : Lo W lb E L n T
  e : ∀ k, E k → w.heap.size ≤ k ∧ k ≠ nb ∧ k ≠ tb ∧ k ≠ eb
  b : Below w.heap.size w W
  cn : ∀ k, k < 3 → W.cell? ⟨nb, k, none⟩ = some (.string (nm k))
  ct : ∀ j, j < 12 → W.cell? ⟨tb, j, none⟩ = some (.bool (tv j))
  ft : ∀ j, j < 12 → W.frozen? ⟨tb, j, none⟩ = false
  ce : ∀ k, k < 3 → W.cell? ⟨eb, k, none⟩ = some (.int .i64 (ev k : Nat))
  fe : ∀ k, k < 3 → W.frozen? ⟨eb, k, none⟩ = false
  o : w.heap.size ≤ nb ∧ w.heap.size ≤ tb ∧ w.heap.size ≤ eb ∧ nb ≠ tb ∧ nb ≠ eb ∧ tb ≠ eb
section
variable {w : World} {lb nb tb eb : Nat} {L L' : List Wt} {n n' : Nat} {T T' : List Du} {tv : Nat → Bool} {ev : Nat → Nat} {E : Nat → Prop} {W V : World}
theorem Fg.go (h : Fg w lb nb tb eb L n T tv ev E W) (g : Lg W lb E L' n' T' V) : ∃ E', Fg w lb nb tb eb L' n' T' tv ev E' V ∧ Mv E W V ∧ Gr E W E' := by
  obtain ⟨E', l, m, gr⟩ := g
  have ln := cell_lt (h.cn 0 (by omega))
  have lt := cell_lt (h.ct 0 (by omega))
  have le := cell_lt (h.ce 0 (by omega))
  simp only at ln lt le
  have n1 : ¬ E nb := fun e => (h.e nb e).2.1 rfl
  have n2 : ¬ E tb := fun e => (h.e tb e).2.2.1 rfl
  have n3 : ¬ E eb := fun e => (h.e eb e).2.2.2 rfl
  refine ⟨E', ⟨l, fun k hk => ?_, h.b.trans (m.toBelow h.b.size fun k hk e => by have := (h.e k e).1; omega), fun k hk => m.cell (a := ⟨nb, k, none⟩) n1 (h.cn k hk), fun j hj => m.cell (a := ⟨tb, j, none⟩) n2 (h.ct j hj), fun j hj => (m.froz (a := ⟨tb, j, none⟩) n2 lt).trans (h.ft j hj), fun k hk => m.cell (a := ⟨eb, k, none⟩) n3 (h.ce k hk), fun k hk => (m.froz (a := ⟨eb, k, none⟩) n3 le).trans (h.fe k hk), h.o⟩, m, gr⟩
  rcases gr k hk with s | s
  · exact h.e k s
  · have := h.b.size
    exact ⟨by omega, by omega, by omega, by omega⟩
theorem Fg.below (h : Fg w lb nb tb eb L n T tv ev E W) (b : Below W.heap.size W V) : Fg w lb nb tb eb L n T tv ev E V :=
  ⟨h.lo.below b, h.e, h.b.trans (b.mono h.b.size), fun k hk => bcell b (cell_lt (h.cn k hk)) (h.cn k hk), fun j hj => bcell b (cell_lt (h.ct j hj)) (h.ct j hj), fun j hj => (bfroz b (cell_lt (h.ct j hj))).trans (h.ft j hj), fun k hk => bcell b (cell_lt (h.ce k hk)) (h.ce k hk), fun k hk => (bfroz b (cell_lt (h.ce k hk))).trans (h.fe k hk), h.o⟩
theorem Fg.setB (h : Fg w lb nb tb eb L n T tv ev E W) {a : Nat} (ha : a < 12) (hV : W.setCell ⟨tb, a, none⟩ (.bool true) = V) : Fg w lb nb tb eb L n T (updB tv a) ev E V := by
  obtain ⟨o1, o2, o3, o4, o5, o6⟩ := h.o
  have cv := Cv.one W tb a (.bool true)
  rw [hV] at cv
  have m : Mv (fun k => k = tb) W V := cv.mv.mono fun k _ s => by obtain ⟨j, s, _⟩ := s; exact s
  have lt := cell_lt (h.ct 0 (by omega))
  have le := cell_lt (h.ce 0 (by omega))
  refine ⟨h.lo.mv m fun k hk e => (h.e k hk).2.2.1 e, h.e, h.b.trans (m.toBelow h.b.size fun k hk e => by omega), fun k hk => m.cell (a := ⟨nb, k, none⟩) o4 (h.cn k hk), fun j hj => ?_, fun j hj => (cv.fr tb j lt).trans (h.ft j hj), fun k hk => m.cell (a := ⟨eb, k, none⟩) (fun e => o6 e.symm) (h.ce k hk), fun k hk => (m.froz (a := ⟨eb, k, none⟩) (fun e => o6 e.symm) le).trans (h.fe k hk), h.o⟩
  unfold updB
  by_cases e : j = a
  · subst e; rw [if_pos rfl, ← hV]; exact World.cell?_setCell_same _ _ _ (h.ct j hj)
  · rw [if_neg e]; exact cv.cell (fun s => e s.2) (h.ct j hj)
theorem Fg.setE (h : Fg w lb nb tb eb L n T tv ev E W) {a : Nat} (ha : a < 3) (hV : W.setCell ⟨eb, a, none⟩ (.int .i64 ((ev a : Int) + 1)) = V) : Fg w lb nb tb eb L n T tv (updE ev a) E V := by
  obtain ⟨o1, o2, o3, o4, o5, o6⟩ := h.o
  have cv := Cv.one W eb a (.int .i64 ((ev a : Int) + 1))
  rw [hV] at cv
  have m : Mv (fun k => k = eb) W V := cv.mv.mono fun k _ s => by obtain ⟨j, s, _⟩ := s; exact s
  have lt := cell_lt (h.ct 0 (by omega))
  have le := cell_lt (h.ce 0 (by omega))
  refine ⟨h.lo.mv m fun k hk e => (h.e k hk).2.2.2 e, h.e, h.b.trans (m.toBelow h.b.size fun k hk e => by omega), fun k hk => m.cell (a := ⟨nb, k, none⟩) o5 (h.cn k hk), fun j hj => m.cell (a := ⟨tb, j, none⟩) o6 (h.ct j hj), fun j hj => (m.froz (a := ⟨tb, j, none⟩) o6 lt).trans (h.ft j hj), fun k hk => ?_, fun k hk => (cv.fr eb k le).trans (h.fe k hk), h.o⟩
  unfold updE
  by_cases e : k = a
  · subst e; rw [if_pos rfl, ← hV]
    have := World.cell?_setCell_same W ⟨eb, k, none⟩ (.int .i64 ((ev k : Int) + 1)) (h.ce k hk)
    rw [this]; rfl
  · rw [if_neg e]; exact cv.cell (fun s => e s.2) (h.ce k hk)
end
/-- Where the walk stands behind i pushes and sets. -/
def FS (w : World) (lb nb tb eb i : Nat) (W : World) : Prop := ∃ L n T tv ev E, Fg w lb nb tb eb L n T tv ev E W ∧ Fp L T tv ev ∧ n ≤ i ∧ ∀ d ∈ T, d.t ≤ 60
theorem Fp.le {L : List Wt} {T : List Du} {tv : Nat → Bool} {ev : Nat → Nat} (h : Fp L T tv ev) {k : Nat} (hk : k < 3) : ev k ≤ L.length := by
  rw [← h.l1 k hk]; exact List.length_filter_le _ _
theorem FS.ca {w : World} {lb nb tb eb i : Nat} {W : World} (h : FS w lb nb tb eb i W) {k : Nat} (hk : k < 3) : W.cell? ⟨nb, k, none⟩ = some (.string (nm k)) := by
  obtain ⟨L, n, T, tv, ev, E, g, _⟩ := h
  exact g.cn k hk
theorem FS.w {w : World} {lb nb tb eb i : Nat} {W : World} (h : FS w lb nb tb eb i W) : Below w.heap.size w W := by
  obtain ⟨L, n, T, tv, ev, E, g, _⟩ := h
  exact g.b
theorem FS.set {w : World} {lb nb tb eb i : Nat} {W : World} (h : FS w lb nb tb eb i W) (hi : i < 60) {k j : Nat} (hk : k < 3) (hj : j < 4) :
    Calls Tryz.prog 13 #[.pointer (some ⟨lb, 0, none⟩), .string (nm k), .string (wh j), .int .i64 i] W fun e V => e = .returned (.tuple #[]) ∧ ∃ b V2, V.cell? ⟨tb, k * 4 + j, none⟩ = some (.bool b) ∧ V.frozen? ⟨tb, k * 4 + j, none⟩ = false ∧ V.setCell ⟨tb, k * 4 + j, none⟩ (.bool true) = V2 ∧ FS w lb nb tb eb (i + 1) V2 := by
  have ek : k * 4 + j = 4 * k + j := by omega
  rw [ek]
  obtain ⟨L, n, T, tv, ev, E, g, f, hn, ht⟩ := h
  have hT := g.lo.ts
  have hall := f.all hT (x := 0) (by omega)
  refine (setl_any g.lo (kk k j) (i : Int) (by omega) (by omega)).mono ?_
  rintro e V ⟨rfl, hg⟩
  obtain ⟨E', g', _⟩ := g.go hg
  have ha : 4 * k + j < 12 := by omega
  refine ⟨rfl, _, _, g'.ct _ ha, g'.ft _ ha, rfl, L, n, _, _, ev, E', g'.setB ha rfl, f.set hk hj _, by omega, fun d hd => ?_⟩
  rcases setT_mem.1 hd with rfl | ⟨hd, _⟩
  · show (i : Int) ≤ 60
    omega
  · exact ht d hd
theorem FS.push {w : World} {lb nb tb eb i : Nat} {W : World} (h : FS w lb nb tb eb i W) (hi : i < 60) {k : Nat} (hk : k < 3) :
    Calls Tryz.prog 9 #[.pointer (some ⟨lb, 0, none⟩), .agg #[.int .i64 3, .int .i64 0, .int .i64 0, .string (nm k), .string ⟨#[]⟩]] W fun e V => e = .returned (.int .i64 0) ∧ ∃ (c : Nat) (V2 : World), c ≤ 60 ∧ V.cell? ⟨eb, k, none⟩ = some (.int .i64 c) ∧ V.frozen? ⟨eb, k, none⟩ = false ∧ V.setCell ⟨eb, k, none⟩ (.int .i64 ((c : Int) + 1)) = V2 ∧ FS w lb nb tb eb (i + 1) V2 := by
  obtain ⟨L, n, T, tv, ev, E, g, f, hn, ht⟩ := h
  have hL : L.length ≤ n := by
    obtain ⟨_, _, _, h1, _⟩ := g.lo
    exact (Qu.q h1).2.2.1
  have hev := f.le hk
  refine (pushl_any g.lo (by omega) 3 0 0 (nm k) ⟨#[]⟩ (by omega) (by omega)).mono ?_
  rintro e V ⟨rfl, hg⟩
  obtain ⟨E', g', _⟩ := g.go hg
  exact ⟨rfl, ev k, _, by omega, g'.ce _ hk, g'.fe _ hk, rfl, _, _, T, tv, _, E', g'.setE hk rfl, f.push hk rfl, by omega, ht⟩
/-- Behind the pushes and sets: x lies in the box xb. -/
structure Fx (w : World) (lb nb tb eb xb x : Nat) (L : List Wt) (n : Nat) (T : List Du) (tv : Nat → Bool) (ev : Nat → Nat) (E : Nat → Prop) (W : World) : Prop where
  g : Fg w lb nb tb eb L n T tv ev E W
  cx : W.cell? ⟨xb, 0, none⟩ = some (.int .i64 (x : Nat))
  nx : ¬ E xb
theorem Fx.forget {w : World} {lb nb tb eb xb x : Nat} {L : List Wt} {n : Nat} {T : List Du} {tv : Nat → Bool} {ev : Nat → Nat} {E : Nat → Prop} {W : World} (h : Fx w lb nb tb eb xb x L n T tv ev E W) (u : ByteArray) :
    Calls Tryz.prog 18 #[.pointer (some ⟨lb, 0, none⟩), .string u] W fun e V => e = .returned (.int .i64 (((T.length : Int) - (goneT u T).length) + ((L.length : Int) - (goneL u L).length))) ∧ ∃ E', Fx w lb nb tb eb xb x (goneL u L) n (goneT u T) tv ev E' V := by
  refine (forget_any h.g.lo u).mono ?_
  rintro e V ⟨rfl, hg⟩
  obtain ⟨E', g', m, gr⟩ := h.g.go hg
  refine ⟨rfl, E', g', m.cell (a := ⟨xb, 0, none⟩) h.nx h.cx, fun e => ?_⟩
  rcases gr xb e with s | s
  · exact h.nx s
  · have := cell_lt h.cx
    simp only at this
    omega
theorem Fx.below {w : World} {lb nb tb eb xb x : Nat} {L : List Wt} {n : Nat} {T : List Du} {tv : Nat → Bool} {ev : Nat → Nat} {E : Nat → Prop} {W V : World} (h : Fx w lb nb tb eb xb x L n T tv ev E W) (b : Below W.heap.size W V) : Fx w lb nb tb eb xb x L n T tv ev E V := ⟨h.g.below b, bcell b (cell_lt h.cx) h.cx, h.nx⟩
end Go.Proofs.YtjcdjkfnmobhkaaGreat
/- LoopForgets: the walk. -/
namespace Go.Proofs.YtjcdjkfnmobhkaaGreat
open Go.RowKit Go.Shelf Go.Lib
attribute [local go_sem] Oper.semAt_some
set_option maxRecDepth 100000 in
set_option maxHeartbeats 8000000 in
theorem forgets_walk (a : Option Addr) (b o n cap : Nat) (us : List Nat) (m : Nat) (w : World) (ha : 0 < n → a = some ⟨b, o, none⟩) (hl : us.length = n) (hel : ∀ (j u : Nat), us[j]? = some u → w.cell? ⟨b, o + j, none⟩ = some (.int .u8 (u : Nat))) (hub : ∀ u ∈ us, u ≤ 255) (hml : n ≤ maxLen) (hm : m ≤ 255) :
    Calls Tryz.prog 6 #[.slice a n cap, .int .u8 (m : Nat)] w fun e w' => e = .returned (.bool true) ∧ Below w.heap.size w w' := by
  have hK := hidP (known_any w)
  have haH := hidP ha
  have hlH := hidP hl
  have helH := hidP hel
  have hubH := hidP hub
  have hnm : (n : Int) ≤ 9223372036854775807 := by unfold maxLen at hml; omega
  clear ha hl hel hub hml
  by_cases h60 : 60 < n
  · have h60I : (60 : Int) < (n : Int) := by omega
    go_enter Tryz.func6, Tryz.ntmps6
    go_wp2_with fail
    refine hK.out.mono ?_
    rintro e V ⟨rfl, hbV⟩
    have fin := hidP hbV
    clear hbV hK
    go_wp2_with fail
    go_ret
    exact ⟨rfl, fin.out⟩
  · have h60I : ¬ (60 : Int) < (n : Int) := by omega
    go_enter Tryz.func6, Tryz.ntmps6
    go_wp2_with fail
    refine hK.out.mono ?_
    rintro e V ⟨rfl, hbV⟩
    obtain ⟨nb, hnb⟩ : ∃ nb, V.heap.size = nb := ⟨_, rfl⟩
    obtain ⟨NW, hNW⟩ : ∃ NW, V.alloc (.cells #[.string ⟨#[97]⟩, .string ⟨#[98]⟩, .string ⟨#[99]⟩] 58) = NW := ⟨_, rfl⟩
    have bN : Below V.heap.size V NW := by rw [← hNW]; exact (Below.refl _ _).alloc (Nat.le_refl _) _
    have cN : ∀ k, k < 3 → NW.cell? ⟨nb, k, none⟩ = some (.string (nm k)) := fun k hk => by
      rw [← hNW]
      refine cell_at hnb ?_
      match k, hk with
      | 0, _ => rfl
      | 1, _ => rfl
      | 2, _ => rfl
    have sN : NW.heap.size = nb + 1 := by rw [← hNW]; simp [hnb]
    have hNw := hidP (newl_any NW)
    have bVN : Below w.heap.size w NW := hbV.trans (bN.mono hbV.size)
    have hbS := hbV.size
    clear hbV hK bN
    obtain ⟨lb, hlb⟩ : ∃ lb, NW.heap.size = lb := ⟨_, rfl⟩
    rw [hlb] at hNw
    unfold lp at hNw
    go_wp2_with (rw [hNW])
    refine hNw.out.mono ?_
    rintro e V0 ⟨rfl, l0, b0⟩
    obtain ⟨tb, htb⟩ : ∃ tb, V0.heap.size = tb := ⟨_, rfl⟩
    obtain ⟨TB, hTB⟩ : ∃ TB, V0.alloc (.cells #[.bool false, .bool false, .bool false, .bool false, .bool false, .bool false, .bool false, .bool false, .bool false, .bool false, .bool false, .bool false] 60) = TB := ⟨_, rfl⟩
    obtain ⟨eb, heb⟩ : ∃ eb, TB.heap.size = eb := ⟨_, rfl⟩
    obtain ⟨EB, hEB⟩ : ∃ EB, TB.alloc (.cells #[.int .i64 0, .int .i64 0, .int .i64 0] 61) = EB := ⟨_, rfl⟩
    have hs0 : Hid (FS w lb nb tb eb 0 EB) := by
      have b1 : Below V0.heap.size V0 TB := by rw [← hTB]; exact (Below.refl _ _).alloc (Nat.le_refl _) _
      have b2 : Below TB.heap.size TB EB := by rw [← hEB]; exact (Below.refl _ _).alloc (Nat.le_refl _) _
      have s1 : TB.heap.size = tb + 1 := by rw [← hTB]; simp [htb]
      have b12 : Below V0.heap.size V0 EB := b1.trans (b2.mono (by omega))
      have b0N : Below lb NW EB := b0.trans (b12.mono (by have := b0.size; omega))
      have z0 := b0.size
      have z1 := l0.lt.1 lb rfl
      have cT : ∀ j, j < 12 → TB.cell? ⟨tb, j, none⟩ = some (.bool false) := fun j hj => by
        rw [← hTB]
        refine cell_at htb ?_
        match j, hj with
        | 0, _ => rfl
        | 1, _ => rfl
        | 2, _ => rfl
        | 3, _ => rfl
        | 4, _ => rfl
        | 5, _ => rfl
        | 6, _ => rfl
        | 7, _ => rfl
        | 8, _ => rfl
        | 9, _ => rfl
        | 10, _ => rfl
        | 11, _ => rfl
      have cE : ∀ j, j < 3 → EB.cell? ⟨eb, j, none⟩ = some (.int .i64 0) := fun j hj => by
        rw [← hEB]
        refine cell_at heb ?_
        match j, hj with
        | 0, _ => rfl
        | 1, _ => rfl
        | 2, _ => rfl
      refine ⟨[], 0, [], fun _ => false, fun _ => 0, fun k => k = lb, ⟨l0.below b12, fun k hk => ?_, bVN.trans (b0N.mono (by have := bVN.size; omega)), fun k hk => bcell b0N (by omega) (cN k hk), fun j hj => bcell b2 (by omega) (cT j hj), fun j hj => (bfroz b2 (by omega)).trans (by rw [← hTB]; exact froz_new htb), fun k hk => cE k hk, fun k hk => by rw [← hEB]; exact froz_new heb, by omega, by omega, by omega, by omega, by omega, by omega⟩, ⟨fun k j _ _ => ⟨(fun h => by cases h), (fun h => by obtain ⟨d, hd, _⟩ := h; cases hd)⟩, (fun d hd => by cases hd), fun _ _ => rfl, (fun d hd => by cases hd)⟩, Nat.le_refl _, (fun d hd => by cases hd)⟩
      have := bVN.size
      have hk' : k = lb := hk
      omega
    clear hNw l0 b0 bVN cN sN hbS
    go_wp2_with (first | rw [hTB] | rw [hEB])
    clear hTB hEB heb htb hlb hnb hNW
    go_loopw [9] (fun s9 wr => ∃ i : Nat, i ≤ n ∧ s9 = .int .i64 i ∧ Hid (FS w lb nb tb eb i wr)) (fun s9 _ => n - (intOf s9).toNat)
    case atStart => exact ⟨0, Nat.zero_le _, rfl, hs0⟩
    case round =>
      clear hs0
      obtain ⟨i, hi, rfl, hS⟩ := hrel
      by_cases hlt : i < n
      · obtain ⟨u, hu⟩ : ∃ u, us[i]? = some u := ⟨_, List.getElem?_eq_getElem (by have := hlH.out; omega)⟩
        have hub := hubH.out u (List.mem_of_getElem? hu)
        obtain rfl := haH.out (by omega)
        have hcu : wr.cell? ⟨b, o + i, none⟩ = some (.int .u8 u) := bcell hS.out.w (cell_lt (helH.out i u hu)) (helH.out i u hu)
        obtain ⟨k, hk⟩ : ∃ k : Nat, u % 3 = k := ⟨_, rfl⟩
        obtain ⟨q, hq⟩ : ∃ q : Nat, u / 3 = q := ⟨_, rfl⟩
        obtain ⟨r, hr⟩ : ∃ r : Nat, q % 2 = r := ⟨_, rfl⟩
        obtain ⟨p, hp⟩ : ∃ p : Nat, u / 6 = p := ⟨_, rfl⟩
        obtain ⟨j, hj⟩ : ∃ j : Nat, p % 4 = j := ⟨_, rfl⟩
        have k3 : k < 3 := by omega
        have j4 : j < 4 := by omega
        have e1 : (u : Int).tmod 3 = (k : Int) := by rw [Int.tmod_eq_emod_of_nonneg (by omega)]; omega
        have e2 : (u : Int).tdiv 3 = (q : Int) := by rw [Int.tdiv_eq_ediv_of_nonneg (by omega)]; omega
        have e3 : (q : Int).tmod 2 = (r : Int) := by rw [Int.tmod_eq_emod_of_nonneg (by omega)]; omega
        have e4 : (u : Int).tdiv 6 = (p : Int) := by rw [Int.tdiv_eq_ediv_of_nonneg (by omega)]; omega
        have e5 : (p : Int).tmod 4 = (j : Int) := by rw [Int.tmod_eq_emod_of_nonneg (by omega)]; omega
        have w1 : IntKind.u8.wrap (k : Int) = (k : Int) := by rw [IntKind.wrap_u8]; omega
        have w2 : IntKind.i64.wrap (k : Int) = (k : Int) := by rw [IntKind.wrap_i64]; omega
        have w3 : IntKind.u8.wrap (q : Int) = (q : Int) := by rw [IntKind.wrap_u8]; omega
        have w4 : IntKind.u8.wrap (r : Int) = (r : Int) := by rw [IntKind.wrap_u8]; omega
        have w5 : IntKind.u8.wrap (p : Int) = (p : Int) := by rw [IntKind.wrap_u8]; omega
        have w6 : IntKind.u8.wrap (j : Int) = (j : Int) := by rw [IntKind.wrap_u8]; omega
        have w7 : IntKind.i64.wrap (j : Int) = (j : Int) := by rw [IntKind.wrap_i64]; omega
        have w8 : IntKind.i64.wrap ((j : Int) + 1) = (j : Int) + 1 := by rw [IntKind.wrap_i64]; omega
        have w9 : IntKind.i64.wrap (i : Int) = (i : Int) := by rw [IntKind.wrap_i64]; omega
        have kI : (k : Int) < 3 := by omega
        have jI : (j : Int) ≤ 3 := by omega
        have jI4 : (j : Int) < 4 := by omega
        obtain ⟨nk, hnk⟩ : ∃ nk, nm k = nk := ⟨_, rfl⟩
        have ck : wr.cell? ⟨nb, k, none⟩ = some (.string nk) := by rw [← hnk]; exact hS.out.ca k3
        by_cases hr0 : r = 0
        · have r0 : (r : Int) = 0 := by omega
          have hSet : Hid (Calls Tryz.prog 13 #[.pointer (some ⟨lb, 0, none⟩), .string nk, .string ((⟨#[119, 120, 121, 122]⟩ : ByteArray).extract j (j + 1)), .int .i64 i] wr.drew fun e V => e = .returned (.tuple #[]) ∧ ∃ b V2, V.cell? ⟨tb, k * 4 + j, none⟩ = some (.bool b) ∧ V.frozen? ⟨tb, k * 4 + j, none⟩ = false ∧ V.setCell ⟨tb, k * 4 + j, none⟩ (.bool true) = V2 ∧ FS w lb nb tb eb (i + 1) V2) := by
            rw [← hnk, wh_ex j4]
            have hb : FS w lb nb tb eb i wr.drew := by
              obtain ⟨L, n, T, tv, ev, E, g, h2⟩ := hS.out
              exact ⟨L, n, T, tv, ev, E, g.below ((Below.refl _ _).drew), h2⟩
            exact hb.set (by omega) k3 j4
          have hS0 : wr.drew.cell? ⟨nb, k, none⟩ = some (.string nk) := ck
          have hS := hS0
          clear hu hub hk hq hr hp hj hnk hr0
          go_wp2_with fail
          refine Zs.region (S := fun W => W.cell? ⟨nb, k, none⟩ = some (.string nk)) 9 (by kernel_rfl) ?_
          refine Zs.pure (i := 0) (oi := ⟨some 51, _, _, _, _, _⟩) (v := .pointer (some ⟨lb, 0, none⟩)) rfl (by kernel_rfl) (by kernel_rfl) (by kernel_rfl) (by decide) (fun _ _ _ h => h) (Or.inl ⟨by rfl, ?hy0⟩) hS ?_
          case hy0 => (intro w hSw; (try dsimp only at hSw); go_simp; try with_reducible rfl)
          simp only [Act.put, List.setIfInBounds_toArray, List.set_cons_zero, List.set_cons_succ]
          refine Zs.pure (i := 1) (oi := ⟨some 52, _, _, _, _, _⟩) (v := .int .i64 k) rfl (by kernel_rfl) (by kernel_rfl) (by kernel_rfl) (by decide) (fun _ _ _ h => h) (Or.inl ⟨by rfl, ?hy1⟩) hS ?_
          case hy1 => (intro w hSw; (try dsimp only at hSw); go_simp; try with_reducible rfl)
          simp only [Act.put, List.setIfInBounds_toArray, List.set_cons_zero, List.set_cons_succ]
          refine Zs.pure (i := 2) (oi := ⟨some 53, _, _, _, _, _⟩) (v := .pointer (some ⟨nb, k, none⟩)) rfl (by kernel_rfl) (by kernel_rfl) (by kernel_rfl) (by decide) (fun _ _ _ h => h) (Or.inl ⟨by rfl, ?hy2⟩) hS ?_
          case hy2 => (intro w hSw; (try dsimp only at hSw); go_simp; try with_reducible rfl)
          simp only [Act.put, List.setIfInBounds_toArray, List.set_cons_zero, List.set_cons_succ]
          refine Zs.takeC (i := 3) (oi := ⟨some 54, _, _, _, _, _⟩) (v := .string nk) 10 rfl (by kernel_rfl) (by kernel_rfl) (by kernel_rfl) (by decide) (by kernel_rfl) (by kernel_rfl) (by kernel_rfl) (fun _ _ _ h => h) (Or.inl ⟨by rfl, ?hy3⟩) hS ?_
          case hy3 => (intro w hSw; (try dsimp only at hSw); go_simp; try with_reducible rfl)
          simp only [Act.put, List.setIfInBounds_toArray, List.set_cons_zero, List.set_cons_succ]
          refine Zs.pure (i := 4) (oi := ⟨some 55, _, _, _, _, _⟩) (v := .int .i64 j) rfl (by kernel_rfl) (by kernel_rfl) (by kernel_rfl) (by decide) (fun _ _ _ h => h) (Or.inl ⟨by rfl, ?hy4⟩) hS ?_
          case hy4 => (intro w hSw; (try dsimp only at hSw); go_simp; try with_reducible rfl)
          simp only [Act.put, List.setIfInBounds_toArray, List.set_cons_zero, List.set_cons_succ]
          refine Zs.pure (i := 5) (oi := ⟨some 56, _, _, _, _, _⟩) (v := .int .i64 j) rfl (by kernel_rfl) (by kernel_rfl) (by kernel_rfl) (by decide) (fun _ _ _ h => h) (Or.inl ⟨by rfl, ?hy5⟩) hS ?_
          case hy5 => (intro w hSw; (try dsimp only at hSw); go_simp; try with_reducible rfl)
          simp only [Act.put, List.setIfInBounds_toArray, List.set_cons_zero, List.set_cons_succ]
          refine Zs.pure (i := 6) (oi := ⟨some 57, _, _, _, _, _⟩) (v := .int .i64 ((j : Int) + 1)) rfl (by kernel_rfl) (by kernel_rfl) (by kernel_rfl) (by decide) (fun _ _ _ h => h) (Or.inl ⟨by rfl, ?hy6⟩) hS ?_
          case hy6 => (intro w hSw; (try dsimp only at hSw); go_simp; try with_reducible rfl)
          simp only [Act.put, List.setIfInBounds_toArray, List.set_cons_zero, List.set_cons_succ]
          refine Zs.pure (i := 7) (oi := ⟨some 58, _, _, _, _, _⟩) (v := .string ((⟨#[119, 120, 121, 122]⟩ : ByteArray).extract j (j + 1))) rfl (by kernel_rfl) (by kernel_rfl) (by kernel_rfl) (by decide) (fun _ _ _ h => h) (Or.inl ⟨by rfl, ?hy7⟩) hS ?_
          case hy7 => (intro w hSw; (try dsimp only at hSw); go_simp; rw [if_pos ⟨by omega, by omega⟩, if_pos (by omega)])
          simp only [Act.put, List.setIfInBounds_toArray, List.set_cons_zero, List.set_cons_succ]
          refine Zs.pure (i := 8) (oi := ⟨some 59, _, _, _, _, _⟩) (v := .int .i64 i) rfl (by kernel_rfl) (by kernel_rfl) (by kernel_rfl) (by decide) (fun _ _ _ h => h) (Or.inl ⟨by rfl, ?hy8⟩) hS ?_
          case hy8 => (intro w hSw; (try dsimp only at hSw); go_simp; try with_reducible rfl)
          simp only [Act.put, List.setIfInBounds_toArray, List.set_cons_zero, List.set_cons_succ]
          refine Zs.one (i := 9) (oi := ⟨some 60, _, _, _, _, _⟩) (by kernel_rfl) rfl (fun K hK => ?_)
          go_simp
          refine hSet.out.mono ?_
          rintro e V1 ⟨rfl, bb, V2, cB, fB, hV2, hS2⟩
          have hS2H := hidP hS2
          clear hSet hS2
          go_wp2_with fail
          refine hK.out _ _ (fun q => absurd q (by decide)) ?_
          clear hK K
          try simp only [Act.put, List.setIfInBounds_toArray, List.set_cons_zero, List.set_cons_succ]
          refine Zs.done (by kernel_rfl) ?_ _
          clear hS hS0
          go_wp2_with (rw [hV2])
          go_roundw
          case rel => exact ⟨i + 1, by omega, by go_num, hS2H⟩
          case measure => simp [intOf]; omega
        · have r1 : (r : Int) = 1 := by omega
          have hPu : Hid (Calls Tryz.prog 9 #[.pointer (some ⟨lb, 0, none⟩), .agg #[.int .i64 3, .int .i64 0, .int .i64 0, .string nk, .string ⟨#[]⟩]] wr fun e V => e = .returned (.int .i64 0) ∧ ∃ (c : Nat) (V2 : World), c ≤ 60 ∧ V.cell? ⟨eb, k, none⟩ = some (.int .i64 c) ∧ V.frozen? ⟨eb, k, none⟩ = false ∧ V.setCell ⟨eb, k, none⟩ (.int .i64 ((c : Int) + 1)) = V2 ∧ FS w lb nb tb eb (i + 1) V2) := by
            rw [← hnk]
            exact hS.out.push (by omega) k3
          clear hS hu hub hk hq hr hp hj hnk hr0
          go_wp2_with fail
          refine hPu.out.mono ?_
          rintro e V1 ⟨rfl, c, V2, hc, cE, fE, hV2, hS2⟩
          have hS2H := hidP hS2
          have hcI : (c : Int) ≤ 60 := by omega
          have hcw : IntKind.i64.wrap ((c : Int) + 1) = (c : Int) + 1 := by rw [IntKind.wrap_i64]; omega
          clear hPu hS2 ck
          go_wp2_with (rw [hV2])
          go_roundw
          case rel => exact ⟨i + 1, by omega, by go_num, hS2H⟩
          case measure => simp [intOf]; omega
      · have hltN := hlt
        obtain ⟨L, pn, T, tv, ev, E, g, f, hpn, ht⟩ := hS.out
        obtain ⟨x, hx⟩ : ∃ x : Nat, m % 3 = x := ⟨_, rfl⟩
        have x3 : x < 3 := by omega
        have xI : (x : Int) < 3 := by omega
        have ex : (m : Int).tmod 3 = (x : Int) := by rw [Int.tmod_eq_emod_of_nonneg (by omega)]; omega
        have wx1 : IntKind.u8.wrap (x : Int) = (x : Int) := by rw [IntKind.wrap_u8]; omega
        have wx2 : IntKind.i64.wrap (x : Int) = (x : Int) := by rw [IntKind.wrap_i64]; omega
        obtain ⟨xb, hxb⟩ : ∃ xb, wr.heap.size = xb := ⟨_, rfl⟩
        obtain ⟨X, hX⟩ : ∃ X, wr.alloc (.cells #[.int .i64 x] 3) = X := ⟨_, rfl⟩
        have bX : Below wr.heap.size wr X := by rw [← hX]; exact (Below.refl _ _).alloc (Nat.le_refl _) _
        have hF : Hid (Fx w lb nb tb eb xb x L pn T tv ev E X) := ⟨g.below bX, by rw [← hX]; exact cell_at hxb rfl, fun e => by have := g.lo.lt.1 xb e; omega⟩
        have hTs : Ts T := g.lo.ts
        have hall := hidP (f.all hTs x3)
        have hLn : L.length ≤ 60 := by
          obtain ⟨_, _, _, h1, _⟩ := g.lo
          have := (Qu.q h1).2.2.1
          omega
        have hevx : X.cell? ⟨eb, x, none⟩ = some (.int .i64 (ev x : Nat)) := hF.out.g.ce x x3
        obtain ⟨vx, hvx⟩ : ∃ vx, ev x = vx := ⟨_, rfl⟩
        have hv60 : vx ≤ 60 := by rw [← hvx]; exact Nat.le_trans (f.le x3) hLn
        have hvI : (vx : Int) ≤ 60 := by omega
        have evs := hidP (fun k (hk : k < 3) => Nat.le_trans (f.le hk) hLn)
        rw [hvx] at hevx
        have hvxH := hidP hvx
        have htH := hidP ht
        have hLnH := hidP hLn
        have ctH : Hid (∀ k j, k < 3 → j < 4 → X.cell? ⟨tb, k * 4 + j, none⟩ = some (.bool (tv (4 * k + j)))) := fun k j h1 h2 => by
          have e : k * 4 + j = 4 * k + j := by omega
          rw [e]; exact hF.out.g.ct _ (by omega)
        have cxX : X.cell? ⟨xb, 0, none⟩ = some (.int .i64 x) := hF.out.cx
        have hTsH := hidP hTs
        have x3H := hidP x3
        clear hi hS g f hpn ht hx hvx hLn bX hTs x3 hv60
        go_wp2_with (rw [hX])
        clear hX hxb hevx wx1 wx2 ex hlt hltN
        go_loop [13, 14, 15] (fun s13 s14 s15 => ∃ k : Nat, k ≤ 3 ∧ s15 = .int .i64 k ∧ s13 = .int .i64 ((vx : Int) + (nX tv x k : Nat)) ∧ s14 = .int .i64 (oX tv x k : Nat)) (fun _ _ s15 => 3 - (intOf s15).toNat)
        case atStart => exact ⟨0, by omega, rfl, by show _ = Value.int .i64 ((vx : Int) + 0); rw [Int.add_zero], rfl⟩
        case round =>
          obtain ⟨k, hk, rfl, rfl, rfl⟩ := hrel
          by_cases hk3 : k < 3
          · have hkI : (k : Int) < 3 := by omega
            obtain ⟨c0, hc0⟩ : ∃ c0 : Int, (vx : Int) + (nX tv x k : Nat) = c0 := ⟨_, rfl⟩
            obtain ⟨o0, ho0⟩ : ∃ o0, oX tv x k = o0 := ⟨_, rfl⟩
            have hc0H := hidP hc0
            have ho0H := hidP ho0
            have hk3H := hidP hk3
            rw [hc0, ho0]
            clear hc0 ho0 hk hk3
            go_wp2_with fail
            go_loop [13, 14, 16] (fun s13 s14 s16 => ∃ j : Nat, j ≤ 4 ∧ s16 = .int .i64 j ∧ s13 = .int .i64 ((vx : Int) + (aI tv x k j : Nat)) ∧ s14 = .int .i64 (oI tv x k j : Nat)) (fun _ _ s16 => 4 - (intOf s16).toNat)
            case atStart => exact ⟨0, by omega, rfl, by rw [(aI_zero tv x k).1, hc0H.out], by rw [(aI_zero tv x k).2, ho0H.out]⟩
            case round =>
              obtain ⟨j, hj, rfl, rfl, rfl⟩ := hrel
              have hle := aI_le tv x (k := k) (j := j) (by have := hk3H.out; omega) hj
              by_cases hj4 : j < 4
              · have hjI : (j : Int) < 4 := by omega
                have ct := ctH.out k j hk3H.out hj4
                obtain ⟨c1, hc1⟩ : ∃ c1 : Int, (vx : Int) + (aI tv x k j : Nat) = c1 := ⟨_, rfl⟩
                obtain ⟨o1, ho1⟩ : ∃ o1, oI tv x k j = o1 := ⟨_, rfl⟩
                have hc1H := hidP hc1
                have ho1H := hidP ho1
                have hcb0 : 0 ≤ c1 := by omega
                have hcb1 : c1 ≤ 76 := by omega
                have hob1 : (o1 : Int) ≤ 16 := by omega
                have wc : IntKind.i64.wrap (c1 + 1) = c1 + 1 := by rw [IntKind.wrap_i64]; omega
                have wo : IntKind.i64.wrap ((o1 : Int) + 1) = (o1 : Int) + 1 := by rw [IntKind.wrap_i64]; omega
                rw [hc1, ho1]
                have hj4H := hidP hj4
                cases htv : tv (4 * k + j) with
                | false =>
                  have st := hidP (aI_f (x := x) htv)
                  rw [htv] at ct
                  clear hle hc1 ho1 hj hj4 htv
                  go_wp2_with fail
                  go_round
                  case rel => exact ⟨j + 1, hj4H.out, by go_num, by rw [st.out.1, hc1H.out], by rw [st.out.2, ho1H.out]⟩
                  case measure => have := hj4H.out; simp [intOf]; omega
                | true =>
                  rw [htv] at ct
                  by_cases hkx : k = x
                  · have st := hidP (aI_t hkx htv)
                    have hkxI : (k : Int) = (x : Int) := by omega
                    have hkD : decide ((k : Int) = (x : Int)) = true := by simpa using hkxI
                    clear hle hc1 ho1 hj hj4 htv
                    have rel1 : Hid (c1 + 1 = (vx : Int) + (aI tv x k (j + 1) : Nat)) := by
                      show _ = _
                      have h1 := st.out.1
                      have h2 := hc1H.out
                      omega
                    have rel2 : Hid (oI tv x k (j + 1) = o1) := by
                      show _ = _
                      have h1 := st.out.2
                      have h2 := ho1H.out
                      omega
                    clear hkxI hkD
                    subst hkx
                    go_wp2_with fail
                    go_round
                    case rel => exact ⟨j + 1, hj4H.out, by go_num, by rw [rel1.out], by rw [rel2.out]⟩
                    case measure => have := hj4H.out; simp [intOf]; omega
                  · have st := hidP (aI_o hkx htv)
                    have hkI2 : ¬ (k : Int) = (x : Int) := by omega
                    have hkD : decide ((k : Int) = (x : Int)) = false := by simpa using hkI2
                    have rel1 : Hid (c1 = (vx : Int) + (aI tv x k (j + 1) : Nat)) := by
                      show _ = _
                      have h1 := st.out.1
                      have h2 := hc1H.out
                      omega
                    have rel2 : Hid ((o1 : Int) + 1 = (oI tv x k (j + 1) : Nat)) := by
                      show _ = _
                      have h1 := st.out.2
                      have h2 := ho1H.out
                      omega
                    clear hle hc1 ho1 hj hj4 htv hkx
                    go_wp2_with fail
                    go_round
                    case rel => exact ⟨j + 1, hj4H.out, by go_num, by rw [← rel1.out], by rw [rel2.out]⟩
                    case measure => have := hj4H.out; simp [intOf]; omega
              · have ej : j = 4 := by omega
                subst ej
                rw [(aI_four tv x k).1, (aI_four tv x k).2]
                obtain ⟨c1, hc1⟩ : ∃ c1 : Int, (vx : Int) + (nX tv x (k + 1) : Nat) = c1 := ⟨_, rfl⟩
                obtain ⟨o1, ho1⟩ : ∃ o1, oX tv x (k + 1) = o1 := ⟨_, rfl⟩
                have hc1H := hidP hc1
                have ho1H := hidP ho1
                rw [hc1, ho1]
                clear hle hc1 ho1 hj hj4
                go_wp2_with fail
                go_round
                case rel => exact ⟨k + 1, hk3H.out, by go_num, by rw [hc1H.out], by rw [ho1H.out]⟩
                case measure => have := hk3H.out; simp [intOf]; omega
          · have ek : k = 3 := by omega
            subst ek
            clear hk hk3 ctH
            obtain ⟨nx, hnx⟩ : ∃ nx, nm x = nx := ⟨_, rfl⟩
            obtain ⟨wt, hwt⟩ : ∃ wt : Int, (vx : Int) + (nX tv x 3 : Nat) = wt := ⟨_, rfl⟩
            obtain ⟨ot, hot⟩ : ∃ ot, oX tv x 3 = ot := ⟨_, rfl⟩
            have cnX : X.cell? ⟨nb, x, none⟩ = some (.string nx) := by rw [← hnx]; exact hF.out.g.cn x x3H.out
            have hnxH := hidP hnx
            have hotH := hidP hot
            have hF1 : Hid (Calls Tryz.prog 18 #[.pointer (some ⟨lb, 0, none⟩), .string nx] X fun e V => e = .returned (.int .i64 wt) ∧ (V.cell? ⟨xb, 0, none⟩ = some (.int .i64 x) ∧ V.cell? ⟨nb, x, none⟩ = some (.string nx)) ∧ ∃ E1, Fx w lb nb tb eb xb x (goneL (nm x) L) pn (goneT (nm x) T) tv ev E1 V) := by
              have hall' := hall.out
              have hvx' := hvxH.out
              rw [← hnx]
              refine (hF.out.forget (nm x)).mono ?_
              rintro e V ⟨rfl, E1, h1⟩
              refine ⟨?_, ⟨h1.cx, h1.g.cn x x3H.out⟩, E1, h1⟩
              have ew : ((T.length : Int) - (goneT (nm x) T).length) + ((L.length : Int) - (goneL (nm x) L).length) = wt := by omega
              rw [ew]
            rw [hwt, hot]
            clear hwt hot hnx
            go_wp2_with fail
            refine hF1.out.mono ?_
            rintro e V1 ⟨rfl, ⟨cx1, cn1⟩, E1, h1⟩
            have hF2 : Hid (Calls Tryz.prog 18 #[.pointer (some ⟨lb, 0, none⟩), .string nx] V1 fun e V => e = .returned (.int .i64 0) ∧ ∃ E2, Fx w lb nb tb eb xb x (goneL (nm x) L) pn (goneT (nm x) T) tv ev E2 V) := by
              have hnx := hnxH.out
              rw [← hnx]
              refine (h1.forget (nm x)).mono ?_
              rintro e V ⟨rfl, E2, h2⟩
              rw [gone2T, gone2L] at h2 ⊢
              refine ⟨?_, E2, h2⟩
              simp
            clear hF1 hF h1 cxX cnX
            go_wp2_with fail
            refine hF2.out.mono ?_
            rintro e V2 ⟨rfl, E2, h2⟩
            obtain ⟨kb, hkb⟩ : ∃ kb, V2.heap.size = kb := ⟨_, rfl⟩
            obtain ⟨A0, hA0⟩ : ∃ A0, V2.alloc (.cells #[.int .i64 0] 3) = A0 := ⟨_, rfl⟩
            obtain ⟨A, hA⟩ : ∃ A, A0.setCell ⟨kb, 0, none⟩ (.int .i64 0) = A := ⟨_, rfl⟩
            have bA0 : Below V2.heap.size V2 A0 := by rw [← hA0]; exact (Below.refl _ _).alloc (Nat.le_refl _) _
            have cA0 : A0.cell? ⟨kb, 0, none⟩ = some (.int .i64 0) := by rw [← hA0]; exact cell_at hkb rfl
            have fA0 : A0.frozen? ⟨kb, 0, none⟩ = false := by rw [← hA0]; exact froz_new hkb
            have cv := Cv.one A0 kb 0 (.int .i64 0)
            rw [hA] at cv
            have bA : Below V2.heap.size V2 A := bA0.trans (cv.mv.toBelow bA0.size (fun k hk e => by obtain ⟨j, e, _⟩ := e; omega))
            have cA : A.cell? ⟨kb, 0, none⟩ = some (.int .i64 0) := by rw [← hA]; exact World.cell?_setCell_same _ _ _ cA0
            have fA : A.frozen? ⟨kb, 0, none⟩ = false := (cv.fr kb 0 (cell_lt cA0)).trans fA0
            have h3 := h2.below bA
            have nk : ∀ k j v, V2.cell? ⟨k, j, none⟩ = some v → k ≠ kb := fun k j v c e => by have := cell_lt c; simp only at this; omega
            have nkb : ¬ E2 kb := fun e => by have := h2.g.lo.lt.1 kb e; omega
            have nn := nk nb x _ (h2.g.cn x x3H.out)
            have nx' := nk xb 0 _ h2.cx
            have ne' := nk eb 0 _ (h2.g.ce 0 (by omega))
            obtain ⟨sA, hsA⟩ : ∃ sA, A.heap.size = sA := ⟨_, rfl⟩
            obtain ⟨W5, hW5⟩ : ∃ W5, (A.alloc (.cells #[.pointer (some ⟨lb, 0, none⟩)] 24)).alloc (.cells #[.int .i64 9223372036854775807] 2) = W5 := ⟨_, rfl⟩
            have hTm := timers_any lb A
            have hlT : (goneT (nm x) T).length = ot := hall.out.1.trans hotH.out
            have hTA := timers_all h3.g.lo (k1 := kb) (k2 := nb) (k3 := xb) x3H.out (fun d hd => by
              obtain ⟨h1, h2⟩ := List.mem_filter.1 hd
              have := htH.out d h1
              exact ⟨by simpa using h2, by omega⟩) (by rw [hall.out.1]; have := hall.out.2.2.2.2.1; omega) nn nx' cA fA (h3.g.cn x x3H.out) h3.cx
            unfold lp at hTm hTA
            rw [hsA, hW5] at hTm hTA
            obtain ⟨ln, hln⟩ : ∃ ln, (goneL (nm x) L).length = ln := ⟨_, rfl⟩
            obtain ⟨v0, hv0⟩ : ∃ v0, ev 0 = v0 := ⟨_, rfl⟩
            obtain ⟨v1, hv1⟩ : ∃ v1, ev 1 = v1 := ⟨_, rfl⟩
            obtain ⟨v2, hv2⟩ : ∃ v2, ev 2 = v2 := ⟨_, rfl⟩
            have hTA' : Hid (Calls Tryz.prog 53 #[.func (.func 29) #[] #[.pointer (some ⟨kb, 0, none⟩), .pointer (some ⟨nb, 0, none⟩), .pointer (some ⟨xb, 0, none⟩)], .pointer (some ⟨sA, 0, none⟩), .pointer (some ⟨sA + 1, 0, none⟩)] W5 fun e V => e = .returned (.tuple #[]) ∧ V.cell? ⟨kb, 0, none⟩ = some (.int .i64 ot) ∧ (V.cell? ⟨eb, 0, none⟩ = some (.int .i64 v0) ∧ V.cell? ⟨eb, 1, none⟩ = some (.int .i64 v1) ∧ V.cell? ⟨eb, 2, none⟩ = some (.int .i64 v2) ∧ V.cell? ⟨eb, x, none⟩ = some (.int .i64 vx)) ∧ V.cell? ⟨xb, 0, none⟩ = some (.int .i64 x) ∧ (∀ q, Calls Tryz.prog 20 #[.pointer (some ⟨lb, 0, none⟩)] (V.drewN q) fun e U => e = .returned (.int .i64 ln) ∧ U = V.drewN q) ∧ ∀ q, Below w.heap.size w (V.drewN q)) := by
              refine hTA.mono ?_
              rintro e V ⟨rfl, mV, cV⟩
              rw [hlT] at cV
              have lo' := h3.g.lo.mv mV (fun k hk e => nkb (e ▸ hk))
              have bV : Below w.heap.size w V := h3.g.b.trans (mV.toBelow h3.g.b.size fun k hk e => by have := h2.g.b.size; omega)
              have ce : ∀ k, k < 3 → V.cell? ⟨eb, k, none⟩ = some (.int .i64 (ev k : Nat)) := fun k hk => mV.cell (a := ⟨eb, k, none⟩) ne' (h3.g.ce k hk)
              refine ⟨rfl, cV, ⟨by rw [← hv0]; exact ce 0 (by omega), by rw [← hv1]; exact ce 1 (by omega), by rw [← hv2]; exact ce 2 (by omega), by have := ce x x3H.out; rw [hvxH.out] at this; exact this⟩, mV.cell (a := ⟨xb, 0, none⟩) nx' h3.cx, fun q => ?_, fun q => below_drewN bV q⟩
              rw [← hln]
              exact lenl_any (lo'.below (below_drewN (Below.refl _ _) q))
            have hTm' := hidP hTm
            have hb0 : (v0 : Int) ≤ 60 := by have := evs.out 0 (by omega); omega
            have hb1 : (v1 : Int) ≤ 60 := by have := evs.out 1 (by omega); omega
            have hb2 : (v2 : Int) ≤ 60 := by have := evs.out 2 (by omega); omega
            have hsum : (v0 : Int) + (v1 : Int) + (v2 : Int) - (vx : Int) = (ln : Int) := by
              have h1 := hall.out.2.2.1
              have h2 := hvxH.out
              omega
            have w1 : IntKind.i64.wrap ((v0 : Int) + (v1 : Int)) = (v0 : Int) + (v1 : Int) := by rw [IntKind.wrap_i64]; omega
            have w2 : IntKind.i64.wrap ((v0 : Int) + (v1 : Int) + (v2 : Int)) = (v0 : Int) + (v1 : Int) + (v2 : Int) := by rw [IntKind.wrap_i64]; omega
            have w3 : IntKind.i64.wrap ((v0 : Int) + (v1 : Int) + (v2 : Int) - (vx : Int)) = (ln : Int) := by rw [IntKind.wrap_i64]; omega
            clear hF2 h2 h3 nk nkb nn nx' ne' bA bA0 cv cA fA hTm hlT hTA hln hv0 hv1 hv2 cx1 cn1 hW5 hsA
            go_wp2_with (first | rw [hA0] | rw [hA])
            clear hA0 hA hkb cA0 fA0
            refine hTm'.out.mono ?_
            rintro e V5 ⟨rfl, rfl⟩
            go_wp2_with fail
            refine hTA'.out.mono ?_
            rintro e V6 ⟨rfl, ck, ⟨c0, c1, c2, c3⟩, cx6, hLen, bw⟩
            have hLenH := hidP hLen
            have bwH := hidP bw
            clear hTm' hTA' hLen bw hsum
            go_wp2_with fail
            go_quiet (first | (go_at_call 20; exact Calls.quiet_of_same (hLenH.out _)))
            go_wp2_with fail
            go_ret
            exact ⟨by first | rfl | simp, bwH.out nq⟩
end Go.Proofs.YtjcdjkfnmobhkaaGreat
