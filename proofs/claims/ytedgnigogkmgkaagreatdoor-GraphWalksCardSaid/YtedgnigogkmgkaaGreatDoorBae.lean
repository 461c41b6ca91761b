import Derived.Test.YtedgnigogkmgkaaGreatDoorBad
/- A graph in memory. -/
namespace Go.Proofs.YtedgnigogkmgkaaGreatDoor
open Go.RowKit Go.Shelf Go.Lib
/-- The zero unit. -/
def zuA : Array Value := #[.string ⟨#[]⟩, .int .i64 0, .int .i64 0, .slice none 0 0, .slice none 0 0, .slice none 0 0, .slice none 0 0, .slice none 0 0, .slice none 0 0, .slice none 0 0, .bool false, .int .i64 0, .int .i64 0, .int .i64 0, .slice none 0 0, .slice none 0 0, .slice none 0 0, .int .i64 0, .int .i64 0, .int .i64 0, .int .i64 0, .int .i64 0, .int .i64 0, .bool false, .string ⟨#[]⟩, .string ⟨#[]⟩, .int .i64 0, .int .i64 0, .slice none 0 0, .slice none 0 0, .slice none 0 0, .string ⟨#[]⟩, .string ⟨#[]⟩]
theorem zeroUn (w : World) : (zeroValue 30).run Tryz.prog w = .ok (.agg zuA) w := by kernel_rfl
theorem zu_size : zuA.size = 33 := rfl
theorem zu_one (p : Nat) (v : Value) (h : zuA[p]? = some v) : v.oneCell' = true := by
  have hb : zuA.all (·.oneCell') = true := by kernel_rfl
  obtain ⟨h1, h2⟩ := Array.getElem?_eq_some_iff.1 h
  have := Array.all_eq_true.1 hb p h1
  rw [← h2]; exact this
/-- The zero unit, told. -/
def zuU : Un := ⟨⟨#[]⟩, 0, ⟨#[]⟩, false, fun _ => [], fun p => (zuA[p]?).getD (.bool false)⟩
theorem zu_uv (w : World) : UV w zuA zuU := by
  refine ⟨rfl, zu_one, rfl, rfl, rfl, rfl, fun i p hp => ⟨.slice none 0 0, ?_, .inl ⟨rfl, none, 0, rfl⟩⟩, fun p h1 h2 => ?_⟩
  · have hm := List.mem_of_getElem? hp
    unfold posL at hm
    simp only [List.mem_cons, List.not_mem_nil, or_false] at hm
    rcases hm with rfl | rfl | rfl | rfl | rfl | rfl | rfl | rfl | rfl | rfl | rfl | rfl | rfl <;> rfl
  · have h3 : zuA[p]? = some (zuA[p]'h1) := Array.getElem?_eq_getElem h1
    have key : ∀ q : Fin 33, q.1 ∉ posL → rbk (zuA[q.1]'q.2) = none := by decide
    refine ⟨?_, ?_⟩
    · show _ = some ((zuA[p]?).getD _); rw [h3]; rfl
    · show rbk ((zuA[p]?).getD _) = none; rw [h3]; exact key ⟨p, h1⟩ h2
abbrev UL := List (Array Value × Un)
def lku (L : UL) (x : ByteArray) : Option (Array Value × Un) := L.find? fun p => decide (p.2.nm = x)
theorem lku_mem {L : UL} {x : ByteArray} {p : Array Value × Un} (h : lku L x = some p) : p ∈ L ∧ p.2.nm = x :=
  ⟨List.mem_of_find?_eq_some h, by simpa using List.find?_some h⟩
theorem lku_cons (p : Array Value × Un) (L : UL) (x : ByteArray) : lku (p :: L) x = if p.2.nm = x then some p else lku L x := by
  unfold lku
  rw [List.find?_cons]
  by_cases h : p.2.nm = x <;> simp [h]
/-- How often the units tell of an edge. -/
def kL (L : UL) (f : Ed) : Int := (cn f (L.flatMap fun p => tolU p.2) : Nat)
theorem kL_cons (p : Array Value × Un) (L : UL) : kL (p :: L) = addL (kL L) (tolU p.2) 1 := by
  funext f
  unfold kL addL
  rw [List.flatMap_cons, cn_app]
  push_cast
  omega
def hasG (S : GS) (k : Nat) : Prop := k = S.gb ∨ k = S.ub ∨ hasEd S k
structure Gs (w : World) (S : GS) (L : UL) : Prop where
  c0 : w.cell? ⟨S.gb, 0, none⟩ = some (.map (some S.ub))
  un : MS w S.ub L.length fun x => (lku L x).map fun p => .agg p.1
  uv : ∀ p ∈ L, UV w p.1 p.2 ∧ isN p.2.nm = true ∧ (∀ b, ubk p.1 b → ¬ hasG S b) ∧ (∀ r ∈ relsU p.2, ∀ s ∈ r.2.2, s.size ≤ 2000000)
  nd : L.Pairwise fun p q => p.2.nm ≠ q.2.nm
  ed : Gd w S (kL L)
  nu : ¬ hasEd S S.ub
  ng : S.ub ≠ S.gb
theorem Gs.lt {w : World} {S : GS} {L : UL} (h : Gs w S L) {k : Nat} (hk : hasG S k) : k < w.heap.size := by
  rcases hk with rfl | rfl | hk
  · exact cell_lt h.c0
  · exact h.un.lt
  · exact h.ed.lt hk
theorem Gs.mv {w w' : World} {S : GS} {L : UL} {E : Nat → Prop} (h : Gs w S L) (m : Mv E w w') (hE : ∀ k, hasG S k → ¬ E k) (hu : ∀ p ∈ L, ∀ b, ubk p.1 b → ¬ E b) : Gs w' S L :=
  ⟨m.cell (a := ⟨S.gb, 0, none⟩) (hE _ (.inl rfl)) h.c0, h.un.mv m (hE _ (.inr (.inl rfl))), fun p hp => ⟨(h.uv p hp).1.mv m (hu p hp), (h.uv p hp).2⟩, h.nd, h.ed.mv m (fun k hk => hE k (.inr (.inr hk))) (hE _ (.inl rfl)), h.nu, h.ng⟩
theorem Gs.below {w w' : World} {S : GS} {L : UL} (h : Gs w S L) (b : Below w.heap.size w w') : Gs w' S L := h.mv (E := fun _ => False) (Mv.below b) (fun _ _ q => q) (fun _ _ _ _ q => q)
/-- From graph to graph. -/
structure GsGo (S : GS) (w : World) (S' : GS) (w' : World) (n : Nat) : Prop where
  gb : S'.gb = S.gb
  ub : S'.ub = S.ub
  mv : Mv (hasG S) w w'
  gr : Gr (hasG S) w (hasG S')
  c : S'.c ≤ S.c + n
theorem GsGo.refl (S : GS) (w : World) : GsGo S w S w 0 := ⟨rfl, rfl, Mv.refl _ _, Gr.refl _ _, by omega⟩
theorem GsGo.trans {S T U : GS} {w v u : World} {n m : Nat} (h : GsGo S w T v n) (k : GsGo T v U u m) : GsGo S w U u (n + m) :=
  ⟨k.gb.trans h.gb, k.ub.trans h.ub, h.mv.trans h.gr k.mv, h.gr.trans h.mv.size k.gr, by have := h.c; have := k.c; omega⟩
theorem GsGo.below {S : GS} {w w' : World} (b : Below w.heap.size w w') : GsGo S w S w' 0 := ⟨rfl, rfl, Mv.below b, Gr.refl _ _, by omega⟩
/-- A unit comes: it is in the map, and told of. -/
theorem Gs.come {w w1 w2 w3 : World} {S S' : GS} {L : UL} {cs : Array Value} {u : Un} {n : Nat} (h : Gs w S L) (b1 : Below w.heap.size w w1) (hu : UV w1 cs u) (hfr : ∀ b, ubk cs b → w.heap.size ≤ b) (hn : isN u.nm = true) (hno : lku L u.nm = none) (hsz : ∀ r ∈ relsU u, ∀ s ∈ r.2.2, s.size ≤ 2000000)
    (m2 : Mv (fun k => k = S.ub) w1 w2) (hM : MS w2 S.ub (L.length + 1) (fun x => if x = u.nm then some (.agg cs) else (lku L x).map fun p => .agg p.1)) (hd : Gd w3 S' (addL (kL L) (tolU u) 1)) (g3 : GdGo S w2 S' w3 n) : Gs w3 S' ((cs, u) :: L) ∧ GsGo S w S' w3 n := by
  have hS1 := h.below b1
  have nub : ∀ k, hasEd S k → k ≠ S.ub := fun k hk e => h.nu (e ▸ hk)
  have hgb : S.gb < w.heap.size := h.lt (.inl rfl)
  have hub : S.ub < w.heap.size := h.lt (.inr (.inl rfl))
  have hs1 := b1.size
  have hs2 := m2.size
  have hs3 := g3.mv.size
  have lE : ∀ k, hasEd S k → k < w.heap.size := fun k hk => h.lt (.inr (.inr hk))
  have gG : ∀ k, hasG S' k → hasG S k ∨ w2.heap.size ≤ k := fun k hk => by
    rcases hk with e | e | e
    · exact .inl (.inl (e.trans g3.gb))
    · exact .inl (.inr (.inl (e.trans g3.ub)))
    · exact (g3.gr k e).imp (fun q => .inr (.inr q)) id
  have nu2 : ∀ q ∈ L, ∀ b, ubk q.1 b → ¬ hasG S b := fun q hq => (h.uv q hq).2.2.1
  have ltu : ∀ q ∈ L, ∀ b, ubk q.1 b → b < w.heap.size := fun q hq b hb => (h.uv q hq).1.lt hb
  have ltc : ∀ b, ubk cs b → b < w1.heap.size := fun b hb => hu.lt hb
  refine ⟨⟨?_, ?_, fun p hp => ?_, ?_, ?_, ?_, ?_⟩, ⟨g3.gb, g3.ub, ?_, ?_, g3.c⟩⟩
  · rw [g3.gb, g3.ub]
    exact g3.mv.cell (a := ⟨S.gb, 0, none⟩) (fun q => h.ed.ng q) (m2.cell (a := ⟨S.gb, 0, none⟩) (fun e => h.ng e.symm) hS1.c0)
  · rw [g3.ub]
    refine (hM.mv g3.mv h.nu).cong fun x => ?_
    rw [lku_cons]
    by_cases e : u.nm = x
    · subst e; simp
    · have e2 : ¬ x = u.nm := fun q => e q.symm
      simp [e, e2]
  · rcases List.mem_cons.1 hp with rfl | hp
    · refine ⟨(hu.mv m2 (fun b hb e => by have := hfr b hb; omega)).mv g3.mv (fun b hb e => by have := hfr b hb; have := lE b e; omega), hn, fun b hb q => ?_, hsz⟩
      have := hfr b hb
      have := ltc b hb
      rcases gG b q with r | r
      · have := h.lt r; omega
      · omega
    · refine ⟨(((h.uv p hp).1.below b1).mv m2 (fun b hb e => nu2 p hp b hb (.inr (.inl e)))).mv g3.mv (fun b hb e => nu2 p hp b hb (.inr (.inr e))), (h.uv p hp).2.1, fun b hb q => ?_, (h.uv p hp).2.2.2⟩
      rcases gG b q with r | r
      · exact nu2 p hp b hb r
      · have := ltu p hp b hb; omega
  · refine List.pairwise_cons.2 ⟨fun q hq e => ?_, h.nd⟩
    have := List.find?_eq_none.1 hno q hq
    simp at this
    exact this e.symm
  · rw [kL_cons]; exact hd
  · intro q
    rw [g3.ub] at q
    rcases g3.gr _ q with r | r
    · exact h.nu r
    · omega
  · rw [g3.gb, g3.ub]; exact h.ng
  · exact ((Mv.below b1).trans' (m2.mono (fun k _ e => .inr (.inl e)))).trans' (g3.mv.mono (fun k _ e => .inr (.inr e)))
  · intro k hk
    rcases gG k hk with r | r
    · exact .inl r
    · exact .inr (by omega)
end Go.Proofs.YtedgnigogkmgkaaGreatDoor
/- Contracts of graph.New and Has. -/
namespace Go.Proofs.YtedgnigogkmgkaaGreatDoor
open Go.RowKit Go.Shelf Go.Lib
theorem En.fresh {w : World} {b : Nat} (h : MS w b 0 fun _ => none) : En w b (fun _ => none) (fun _ _ => 0) 0 :=
  ⟨⟨0, Nat.le_refl _, h⟩, (fun _ _ h => by cases h), fun _ _ _ => rfl, (fun _ _ _ h => by cases h), (fun _ _ h => by cases h), fun _ _ => ⟨by omega, by omega⟩, fun _ _ h => absurd rfl h⟩
theorem fw_zero : fw (kL []) = fun _ _ => 0 := by
  funext x e
  unfold fw kL
  simp [cn]
theorem bw_zero : bw (kL []) = fun _ _ => 0 := by
  funext x e
  unfold bw kL
  simp [cn]
set_option maxRecDepth 100000 in
set_option maxHeartbeats 1000000 in
theorem new_any (w : World) : Calls Tryz.prog 10 #[] w fun e w' => ∃ S, e = .returned (.pointer (some ⟨S.gb, 0, none⟩)) ∧ Gs w' S [] ∧ (∀ k, hasG S k → w.heap.size ≤ k) ∧ S.c = 0 ∧ Below w.heap.size w w' := by
  obtain ⟨n, hn⟩ : ∃ n, w.heap.size = n := ⟨_, rfl⟩
  have hmm := @run_makeMap Tryz.prog
  obtain ⟨W, hW⟩ : ∃ W, (((w.alloc (.map #[] 0)).alloc (.map #[] 0)).alloc (.map #[] 0)).alloc (.cells #[.map (some n), .map (some (n + 1)), .map (some (n + 2))] 105) = W := ⟨_, rfl⟩
  have fin : Hid (∃ S, Ending.returned (.pointer (some ⟨n + 3, 0, none⟩)) = .returned (.pointer (some ⟨S.gb, 0, none⟩)) ∧ Gs W S [] ∧ (∀ k, hasG S k → w.heap.size ≤ k) ∧ S.c = 0 ∧ Below w.heap.size w W) := by
    have b : Below w.heap.size w W := by rw [← hW]; exact ((((Below.refl _ _).alloc (Nat.le_refl _) _).alloc (by simp) _).alloc (by simp; omega) _).alloc (by simp; omega) _
    have c : ∀ j v, #[Value.map (some n), .map (some (n + 1)), .map (some (n + 2))][j]? = some v → W.cell? ⟨n + 3, j, none⟩ = some v := fun j v hj => by rw [← hW]; exact cell_at (by simp; omega) hj
    have m0 : MS W n 0 fun _ => none := by
      have : MS (w.alloc (.map #[] 0)) n 0 fun _ => none := by rw [← hn]; exact MapIs.made _
      rw [← hW]
      exact ((this.mv (Mv.alloc (fun _ => False) _ _) (fun q => q)).mv (Mv.alloc (fun _ => False) _ _) (fun q => q)).mv (Mv.alloc (fun _ => False) _ _) (fun q => q)
    have m1 : MS W (n + 1) 0 fun _ => none := by
      have : MS ((w.alloc (.map #[] 0)).alloc (.map #[] 0)) (n + 1) 0 fun _ => none := by
        have q := MapIs.made (k := 9) (e := eS) (w.alloc (.map #[] 0))
        rw [show (w.alloc (.map #[] 0)).heap.size = n + 1 by simp [hn]] at q
        exact q
      rw [← hW]
      exact (this.mv (Mv.alloc (fun _ => False) _ _) (fun q => q)).mv (Mv.alloc (fun _ => False) _ _) (fun q => q)
    have m2 : MS W (n + 2) 0 fun _ => none := by
      have : MS (((w.alloc (.map #[] 0)).alloc (.map #[] 0)).alloc (.map #[] 0)) (n + 2) 0 fun _ => none := by
        have q := MapIs.made (k := 9) (e := eS) ((w.alloc (.map #[] 0)).alloc (.map #[] 0))
        rw [show ((w.alloc (.map #[] 0)).alloc (.map #[] 0)).heap.size = n + 2 by simp [hn]] at q
        exact q
      rw [← hW]
      exact this.mv (Mv.alloc (fun _ => False) _ _) (fun q => q)
    have hE : ∀ k, hasEd ⟨n + 3, n, n + 1, n + 2, fun _ => none, fun _ => none, 0⟩ k → k = n + 1 ∨ k = n + 2 := fun k hk => by
      rcases hk with (rfl | ⟨x, hx⟩) | (rfl | ⟨x, hx⟩)
      · exact .inl rfl
      · cases hx
      · exact .inr rfl
      · cases hx
    refine ⟨⟨n + 3, n, n + 1, n + 2, fun _ => none, fun _ => none, 0⟩, rfl, ⟨c 0 _ rfl, m0.cong (fun _ => rfl), (fun p hp => by cases hp), List.Pairwise.nil, ⟨c 1 _ rfl, c 2 _ rfl, by rw [fw_zero]; exact En.fresh m1, by rw [bw_zero]; exact En.fresh m2, fun k hk q => ?_, fun q => ?_⟩, fun q => ?_, by show n ≠ n + 3; omega⟩, fun k hk => ?_, rfl, b⟩
    · rcases hk with rfl | ⟨x, hx⟩
      · rcases q with q | ⟨x, hx⟩
        · exact absurd q (by show ¬ n + 1 = n + 2; omega)
        · cases hx
      · cases hx
    · have := hE _ q; change n + 3 = n + 1 ∨ n + 3 = n + 2 at this; omega
    · have := hE _ q; change n = n + 1 ∨ n = n + 2 at this; omega
    · rcases hk with e | e | hk
      · change k = n + 3 at e; omega
      · change k = n at e; omega
      · have := hE k hk; omega
  go_enter Tryz.func10, Tryz.ntmps10
  go_wp2_with (rw [hW])
  go_ret
  exact fin.out
theorem look_nil (key : Value) (e : EK) (hk : key = edV e.1) (w : World) : (Instr.lookup 154 (.map none) key false).run Tryz.prog w = .ok (.int .i64 0) w := by
  subst hk
  have h2 := klawE.check w true (keyE e)
  rcases klawE.find w (keyE e) [] (fun _ h => by cases h) with ⟨h3, _⟩ | ⟨j, e0, _, h3, _⟩
  · simp [Instr.lookup, run_underlying undMe, h2, h3, Result.andThen]
  · simp at h3
set_option maxRecDepth 100000 in
set_option maxHeartbeats 1000000 in
theorem has_any (S : GS) (L : UL) (w : World) (h : Gs w S L) (k : Int) (a b : ByteArray) (hk : okE (k, a, b)) :
    Calls Tryz.prog 55 #[.pointer (some ⟨S.gb, 0, none⟩), .int .i64 k, .string a, .string b] w fun e w' => e = .returned (.bool (decide (0 < kL L (k, a, b)))) ∧ w' = w := by
  obtain ⟨m, hm, hA⟩ := h.ed.e1.all
  have c1 := h.ed.c1
  have hlk := hA.look1 lawS undEn (zeroMe w) (a := a) (keyS hk.2.1)
  obtain ⟨q, hq⟩ : ∃ q, kL L (k, a, b) = q := ⟨_, rfl⟩
  have hfw : fw (kL L) a (k, a, b) = q := by rw [← hq]; exact fw_at _ (k, a, b)
  cases hf : S.f1 a with
  | none =>
    rw [hf] at hlk
    simp only [Option.map_none, Option.getD_none] at hlk
    have hl2 := look_nil (.agg #[.int .i64 k, .string a, .string b]) ⟨(k, a, b), hk⟩ rfl w
    have h0 := h.ed.e1.non a hf (k, a, b)
    have hq0 : q = 0 := by rw [← hfw]; exact h0
    clear h hA hf hfw h0
    subst hq0
    rw [hq]
    go_enter Tryz.func55, Tryz.ntmps55
    go_wp2_with fail
    go_ret
    exact ⟨rfl, rfl⟩
  | some bl =>
    rw [hf] at hlk
    simp only [Option.map_some, Option.getD_some] at hlk
    obtain ⟨n, _, _, hM⟩ := h.ed.e1.sub a bl hf
    have hl2 := hM.look1 lawE undMe (zeroI w) (a := ⟨(k, a, b), hk⟩) (keyE ⟨(k, a, b), hk⟩)
    rw [cfS_get, hfw] at hl2
    unfold edV at hl2
    clear h hA hf hfw hM
    rw [hq]
    go_enter Tryz.func55, Tryz.ntmps55
    go_wp2_with fail
    go_ret
    exact ⟨rfl, rfl⟩
end Go.Proofs.YtedgnigogkmgkaaGreatDoor
/- Steps of a walk over whole units. -/
namespace Go.Proofs.YtedgnigogkmgkaaGreatDoor
open Go.RowKit Go.Shelf Go.Lib
/-- What is stored over a new unit. -/
theorem fresh_store {W : World} {vs : Array Value} (hs : vs.size = 33) (h1 : ∀ (p : Nat) (v : Value), vs[p]? = some v → v.oneCell' = true) (Z : Array Value) (t : TypeId) (hZ : Z.size = 33) :
    ∃ X, (storeCells ⟨W.heap.size, 0, none⟩ vs.toList).run Tryz.prog (W.alloc (.cells Z t)) = .ok () X ∧ Ub W.heap.size vs X ∧ Below W.heap.size W X := by
  obtain ⟨X, q1, q2, q3⟩ := Ub.store (P := Tryz.prog) (n := W.heap.size) (w := W.alloc (.cells Z t)) hs h1 (fun p hp => by
    rw [cell_at (v := Z[p]'(by omega)) rfl (Array.getElem?_eq_getElem (by omega))]; rfl) (fun p => World.frozen?_alloc_new W _ _ p)
  exact ⟨X, q1, q2, ((Below.refl _ _).alloc (Nat.le_refl _) _).trans (q3.toBelow (n := W.heap.size) (by simp) (fun k hk e => by omega))⟩
end Go.Proofs.YtedgnigogkmgkaaGreatDoor
/- A unit goes: the contract of drop. -/
namespace Go.Proofs.YtedgnigogkmgkaaGreatDoor
open Go.RowKit Go.Shelf Go.Lib
def rmU (L : UL) (x : ByteArray) : UL := L.filter fun p => !decide (p.2.nm = x)
theorem lku_rm (L : UL) (x y : ByteArray) : lku (rmU L x) y = if y = x then none else lku L y := by
  unfold lku rmU
  induction L with
  | nil => simp
  | cons p L ih =>
    by_cases h : p.2.nm = x
    · rw [List.filter_cons_of_neg (by simp [h]), ih]
      by_cases h2 : y = x
      · simp [h2]
      · have : ¬ x = y := fun e => h2 e.symm
        simp [h2, h, this]
    · rw [List.filter_cons_of_pos (by simp [h])]
      by_cases h2 : y = x
      · subst h2
        rw [if_pos rfl] at ih ⊢
        rw [List.find?_cons, decide_eq_false h]
        exact ih
      · rw [if_neg h2] at ih ⊢
        rw [List.find?_cons, List.find?_cons, ih]
theorem rm_none {L : UL} {x : ByteArray} (h : ∀ p ∈ L, p.2.nm ≠ x) : rmU L x = L := by
  unfold rmU
  exact List.filter_eq_self.2 fun p hp => by simp [h p hp]
/-- With one of its name the rest is one shorter; what is told of is parted. -/
theorem rm_split : ∀ {L : UL} {x : ByteArray} {p : Array Value × Un}, (L.Pairwise fun p q => p.2.nm ≠ q.2.nm) → lku L x = some p → (rmU L x).length + 1 = L.length ∧ ∀ f, kL L f = kL (rmU L x) f + (cn f (tolU p.2) : Int)
  | [], _, _, _, h => by cases h
  | q :: L, x, p, hn, h => by
    have hn2 := List.pairwise_cons.1 hn
    rw [lku_cons] at h
    by_cases e : q.2.nm = x
    · rw [if_pos e] at h
      cases h
      have h1 : rmU (q :: L) x = L := by
        have : rmU (q :: L) x = rmU L x := by unfold rmU; rw [List.filter_cons_of_neg (by simp [e])]
        rw [this, rm_none (fun r hr e2 => hn2.1 r hr (e.trans e2.symm))]
      rw [h1]
      refine ⟨rfl, fun f => ?_⟩
      rw [kL_cons]
      unfold addL
      omega
    · rw [if_neg e] at h
      obtain ⟨i1, i2⟩ := rm_split hn2.2 h
      have h1 : rmU (q :: L) x = q :: rmU L x := by unfold rmU; rw [List.filter_cons_of_pos (by simp [e])]
      rw [h1]
      refine ⟨by simp [i1], fun f => ?_⟩
      rw [kL_cons, kL_cons]
      unfold addL
      rw [i2 f]
      omega
theorem Gs.leave {w w1 w2 : World} {S S' : GS} {L : UL} {x : ByteArray} {p : Array Value × Un} {n : Nat} (h : Gs w S L) (hp : lku L x = some p) (hd : Gd w1 S' (addL (kL L) (tolU p.2) (-1))) (g1 : GdGo S w S' w1 n) (m2 : Mv (fun k => k = S.ub) w1 w2) (hM : MS w2 S.ub (L.length - 1) (fun y => if y = x then none else (lku L y).map fun p => .agg p.1)) :
    Gs w2 S' (rmU L x) ∧ GsGo S w S' w2 n := by
  obtain ⟨r1, r2⟩ := rm_split h.nd hp
  have hgb : S.gb < w.heap.size := h.lt (.inl rfl)
  have hub : S.ub < w.heap.size := h.lt (.inr (.inl rfl))
  have hs1 := g1.mv.size
  have hs2 := m2.size
  have gG : ∀ k, hasG S' k → hasG S k ∨ w.heap.size ≤ k := fun k hk => by
    rcases hk with e | e | e
    · exact .inl (.inl (e.trans g1.gb))
    · exact .inl (.inr (.inl (e.trans g1.ub)))
    · exact (g1.gr k e).imp (fun q => .inr (.inr q)) id
  have nu' : ¬ hasEd S' S.ub := fun q => by
    rcases g1.gr _ q with r | r
    · exact h.nu r
    · omega
  have hmem : ∀ q ∈ rmU L x, q ∈ L := fun q hq => (List.mem_filter.1 hq).1
  have hK : addL (kL L) (tolU p.2) (-1) = kL (rmU L x) := by
    funext f
    unfold addL
    rw [r2 f]
    omega
  refine ⟨⟨?_, ?_, fun q hq => ?_, h.nd.filter _, ?_, ?_, ?_⟩, ⟨g1.gb, g1.ub, ?_, ?_, g1.c⟩⟩
  · rw [g1.gb, g1.ub]
    exact m2.cell (a := ⟨S.gb, 0, none⟩) (fun e => h.ng e.symm) (g1.mv.cell (a := ⟨S.gb, 0, none⟩) (fun q => h.ed.ng q) h.c0)
  · rw [g1.ub]
    have : L.length - 1 = (rmU L x).length := by omega
    rw [← this]
    refine hM.cong fun y => ?_
    rw [lku_rm]
    split <;> rfl
  · obtain ⟨q1, q2, q3, q4⟩ := h.uv q (hmem q hq)
    refine ⟨(q1.mv g1.mv (fun b hb e => q3 b hb (.inr (.inr e)))).mv m2 (fun b hb e => q3 b hb (.inr (.inl e))), q2, fun b hb e => ?_, q4⟩
    rcases gG b e with r | r
    · exact q3 b hb r
    · have := q1.lt hb; omega
  · rw [← hK]
    exact hd.mv m2 (fun k hk e => nu' (e ▸ hk)) (fun e => h.ng (by rw [← e]; exact g1.gb))
  · rw [g1.ub]; exact nu'
  · rw [g1.gb, g1.ub]; exact h.ng
  · exact (g1.mv.mono (fun k _ e => .inr (.inr e))).trans' (m2.mono (fun k _ e => .inr (.inl e)))
  · intro k hk
    exact gG k hk
set_option maxRecDepth 100000 in
set_option maxHeartbeats 4000000 in
theorem drop_any (S : GS) (L : UL) (x : ByteArray) (p : Array Value × Un) (w : World) (h : Gs w S L) (hx : x.size ≤ 1000) (hp : lku L x = some p) (hc : S.c + 2 * (tolU p.2).length ≤ 800000) (hgl : GlN w) (e0 : ¬ hasG S 0) (e1 : ¬ hasG S 1) :
    Calls Tryz.prog 58 #[.pointer (some ⟨S.gb, 0, none⟩), .string x] w fun e w' => e = .returned (.tuple #[]) ∧ ∃ S', Gs w' S' (rmU L x) ∧ GsGo S w S' w' (2 * (tolU p.2).length) := by
  obtain ⟨gb, hgb⟩ : ∃ gb, S.gb = gb := ⟨_, rfl⟩
  obtain ⟨ub, hub⟩ : ∃ ub, S.ub = ub := ⟨_, rfl⟩
  have c0 := h.c0
  rw [hgb, hub] at c0
  have hlk := h.un.look1 lawS (t := 101) Tryz.underlying101 (zeroUn w) (a := x) (keyS hx)
  rw [hp, hub] at hlk
  simp only [Option.map_some, Option.getD_some] at hlk
  obtain ⟨hmem, hnm⟩ := lku_mem hp
  obtain ⟨u1, u2, u3, u4⟩ := h.uv p hmem
  obtain ⟨r1, r2⟩ := rm_split h.nd hp
  have hcnt := gcount_any S (kL L) p.1 p.2 w h.ed u1 (-1) (.inr ⟨rfl, fun f => by rw [r2 f]; have : 0 ≤ kL (rmU L x) f := by unfold kL; omega
                                                                                  omega⟩) (by rw [hnm]; exact hx) hc u4 hgl (fun q => e0 (.inr (.inr q))) (fun q => e1 (.inr (.inr q))) (fun b hb q => u3 b hb (.inr (.inr q)))
  rw [hgb] at hcnt
  have hH := hidP h
  have hpH := hidP hp
  have hgE : gb ≠ ub ∧ ¬ hasEd S gb := ⟨fun e => h.ng (hub.trans (e.symm.trans hgb.symm)), by rw [← hgb]; exact h.ed.ng⟩
  have hgEH := hidP hgE
  clear h hp hc hgl e0 e1 hmem hnm u1 u2 u3 u4 r1 r2 hgE
  rw [hgb]
  go_enter Tryz.func58, Tryz.ntmps58
  go_wp2_with fail
  refine hcnt.mono ?_
  rintro e w1 ⟨rfl, S', hG', hgo⟩
  have c1 : w1.cell? ⟨gb, 0, none⟩ = some (.map (some ub)) := hgo.mv.cell (a := ⟨gb, 0, none⟩) hgEH.out.2 c0
  obtain ⟨w2, hdl, hM, m2⟩ := (hH.out.un.mv hgo.mv hH.out.nu).drop lawS (fun _ _ => eS_inj) (t := 101) Tryz.underlying101 (a := x) (keyS hx) 0
  rw [hpH.out] at hM
  have fin := hidP (hH.out.leave hpH.out hG' hgo m2 (by simpa [dnN] using hM))
  rw [hub] at hdl
  clear hcnt hG' hgo hM m2 hlk
  go_wp2_with fail
  refine bodyPost_end (v := .tuple #[]) (by simp [results, Tryz.results58, go_sem]) rfl ?_
  exact ⟨rfl, S', fin.out⟩
theorem GsGo.mono {S T : GS} {w v : World} {n m : Nat} (h : GsGo S w T v n) (hm : n ≤ m) : GsGo S w T v m := ⟨h.gb, h.ub, h.mv, h.gr, by have := h.c; omega⟩
end Go.Proofs.YtedgnigogkmgkaaGreatDoor
