/- A graph in memory. -/
import Derived.Test.YtcfclknfnadgcaaDoorGC2
import Derived.Test.YtcfclknfnadgcaaDoorGU2
namespace Go.Proofs.YtcfclknfnadgcaaDoor
open Go.RowKit Go.Shelf Go.Lib
/-- The zero unit. -/
def zuA : Array Value := #[.string ⟨#[]⟩, .int .i64 0, .int .i64 0, .slice none 0 0, .slice none 0 0, .slice none 0 0, .slice none 0 0, .slice none 0 0, .slice none 0 0, .slice none 0 0, .bool false, .int .i64 0, .int .i64 0, .int .i64 0, .slice none 0 0, .slice none 0 0, .slice none 0 0, .int .i64 0, .int .i64 0, .int .i64 0, .int .i64 0, .int .i64 0, .int .i64 0, .bool false, .string ⟨#[]⟩, .string ⟨#[]⟩, .int .i64 0, .int .i64 0, .slice none 0 0, .slice none 0 0, .slice none 0 0, .string ⟨#[]⟩, .string ⟨#[]⟩]
theorem zeroUn (w : World) : (zeroValue 29).run Tryd.prog w = .ok (.agg zuA) w := by kernel_rfl
theorem zu_size : zuA.size = 33 := rfl
theorem zu_one (p : Nat) (v : Value) (h : zuA[p]? = some v) : v.oneCell' = true := by
  have hb : zuA.all (·.oneCell') = true := by kernel_rfl
  obtain ⟨h1, h2⟩ := Array.getElem?_eq_some_iff.1 h
  have := Array.all_eq_true.1 hb p h1
  rw [← h2]; exact this
/-- The zero unit, told. -/
def zuU : Un := ⟨⟨#[]⟩, 0, ⟨#[]⟩, false, fun _ => [], fun p => (zuA[p]?).getD (.bool false)⟩
theorem zu_uv (w : World) : UV w zuA zuU := by
  refine ⟨rfl, zu_one, rfl, rfl, rfl, rfl, fun i p hp => ⟨.slice none 0 0, ?_, .inl ⟨rfl, none, 0, rfl⟩⟩, fun p h1 h2 => ?_⟩
  · have hm := List.mem_of_getElem? hp
    unfold posL at hm
    simp only [List.mem_cons, List.not_mem_nil, or_false] at hm
    rcases hm with rfl | rfl | rfl | rfl | rfl | rfl | rfl | rfl | rfl | rfl | rfl | rfl | rfl <;> rfl
  · have h3 : zuA[p]? = some (zuA[p]'h1) := Array.getElem?_eq_getElem h1
    have key : ∀ q : Fin 33, q.1 ∉ posL → rbk (zuA[q.1]'q.2) = none := by decide
    refine ⟨?_, ?_⟩
    · show _ = some ((zuA[p]?).getD _); rw [h3]; rfl
    · show rbk ((zuA[p]?).getD _) = none; rw [h3]; exact key ⟨p, h1⟩ h2
abbrev UL := List (Array Value × Un)
def lku (L : UL) (x : ByteArray) : Option (Array Value × Un) := L.find? fun p => decide (p.2.nm = x)
theorem lku_mem {L : UL} {x : ByteArray} {p : Array Value × Un} (h : lku L x = some p) : p ∈ L ∧ p.2.nm = x :=
  ⟨List.mem_of_find?_eq_some h, by simpa using List.find?_some h⟩
theorem lku_cons (p : Array Value × Un) (L : UL) (x : ByteArray) : lku (p :: L) x = if p.2.nm = x then some p else lku L x := by
  unfold lku
  rw [List.find?_cons]
  by_cases h : p.2.nm = x <;> simp [h]
/-- How often the units tell of an edge. -/
def kL (L : UL) (f : Ed) : Int := (cn f (L.flatMap fun p => tolU p.2) : Nat)
theorem kL_cons (p : Array Value × Un) (L : UL) : kL (p :: L) = addL (kL L) (tolU p.2) 1 := by
  funext f
  unfold kL addL
  rw [List.flatMap_cons, cn_app]
  push_cast
  omega
def hasG (S : GS) (k : Nat) : Prop := k = S.gb ∨ k = S.ub ∨ hasEd S k
structure Gs (w : World) (S : GS) (L : UL) : Prop where
  c0 : w.cell? ⟨S.gb, 0, none⟩ = some (.map (some S.ub))
  un : MS w S.ub L.length fun x => (lku L x).map fun p => .agg p.1
  uv : ∀ p ∈ L, UV w p.1 p.2 ∧ isN p.2.nm = true ∧ (∀ b, ubk p.1 b → ¬ hasG S b) ∧ (∀ r ∈ relsU p.2, ∀ s ∈ r.2.2, s.size ≤ 2000000)
  nd : L.Pairwise fun p q => p.2.nm ≠ q.2.nm
  ed : Gd w S (kL L)
  nu : ¬ hasEd S S.ub
  ng : S.ub ≠ S.gb
theorem Gs.lt {w : World} {S : GS} {L : UL} (h : Gs w S L) {k : Nat} (hk : hasG S k) : k < w.heap.size := by
  rcases hk with rfl | rfl | hk
  · exact cell_lt h.c0
  · exact h.un.lt
  · exact h.ed.lt hk
theorem Gs.mv {w w' : World} {S : GS} {L : UL} {E : Nat → Prop} (h : Gs w S L) (m : Mv E w w') (hE : ∀ k, hasG S k → ¬ E k) (hu : ∀ p ∈ L, ∀ b, ubk p.1 b → ¬ E b) : Gs w' S L :=
  ⟨m.cell (a := ⟨S.gb, 0, none⟩) (hE _ (.inl rfl)) h.c0, h.un.mv m (hE _ (.inr (.inl rfl))), fun p hp => ⟨(h.uv p hp).1.mv m (hu p hp), (h.uv p hp).2⟩, h.nd, h.ed.mv m (fun k hk => hE k (.inr (.inr hk))) (hE _ (.inl rfl)), h.nu, h.ng⟩
theorem Gs.below {w w' : World} {S : GS} {L : UL} (h : Gs w S L) (b : Below w.heap.size w w') : Gs w' S L := h.mv (E := fun _ => False) (Mv.below b) (fun _ _ q => q) (fun _ _ _ _ q => q)
/-- From graph to graph. -/
structure GsGo (S : GS) (w : World) (S' : GS) (w' : World) (n : Nat) : Prop where
  gb : S'.gb = S.gb
  ub : S'.ub = S.ub
  mv : Mv (hasG S) w w'
  gr : Gr (hasG S) w (hasG S')
  c : S'.c ≤ S.c + n
theorem GsGo.refl (S : GS) (w : World) : GsGo S w S w 0 := ⟨rfl, rfl, Mv.refl _ _, Gr.refl _ _, by omega⟩
theorem GsGo.trans {S T U : GS} {w v u : World} {n m : Nat} (h : GsGo S w T v n) (k : GsGo T v U u m) : GsGo S w U u (n + m) :=
  ⟨k.gb.trans h.gb, k.ub.trans h.ub, h.mv.trans h.gr k.mv, h.gr.trans h.mv.size k.gr, by have := h.c; have := k.c; omega⟩
theorem GsGo.below {S : GS} {w w' : World} (b : Below w.heap.size w w') : GsGo S w S w' 0 := ⟨rfl, rfl, Mv.below b, Gr.refl _ _, by omega⟩
/-- A unit comes: it is in the map, and told of. -/
theorem Gs.come {w w1 w2 w3 : World} {S S' : GS} {L : UL} {cs : Array Value} {u : Un} {n : Nat} (h : Gs w S L) (b1 : Below w.heap.size w w1) (hu : UV w1 cs u) (hfr : ∀ b, ubk cs b → w.heap.size ≤ b) (hn : isN u.nm = true) (hno : lku L u.nm = none) (hsz : ∀ r ∈ relsU u, ∀ s ∈ r.2.2, s.size ≤ 2000000)
    (m2 : Mv (fun k => k = S.ub) w1 w2) (hM : MS w2 S.ub (L.length + 1) (fun x => if x = u.nm then some (.agg cs) else (lku L x).map fun p => .agg p.1)) (hd : Gd w3 S' (addL (kL L) (tolU u) 1)) (g3 : GdGo S w2 S' w3 n) : Gs w3 S' ((cs, u) :: L) ∧ GsGo S w S' w3 n := by
  have hS1 := h.below b1
  have nub : ∀ k, hasEd S k → k ≠ S.ub := fun k hk e => h.nu (e ▸ hk)
  have hgb : S.gb < w.heap.size := h.lt (.inl rfl)
  have hub : S.ub < w.heap.size := h.lt (.inr (.inl rfl))
  have hs1 := b1.size
  have hs2 := m2.size
  have hs3 := g3.mv.size
  have lE : ∀ k, hasEd S k → k < w.heap.size := fun k hk => h.lt (.inr (.inr hk))
  have gG : ∀ k, hasG S' k → hasG S k ∨ w2.heap.size ≤ k := fun k hk => by
    rcases hk with e | e | e
    · exact .inl (.inl (e.trans g3.gb))
    · exact .inl (.inr (.inl (e.trans g3.ub)))
    · exact (g3.gr k e).imp (fun q => .inr (.inr q)) id
  have nu2 : ∀ q ∈ L, ∀ b, ubk q.1 b → ¬ hasG S b := fun q hq => (h.uv q hq).2.2.1
  have ltu : ∀ q ∈ L, ∀ b, ubk q.1 b → b < w.heap.size := fun q hq b hb => (h.uv q hq).1.lt hb
  have ltc : ∀ b, ubk cs b → b < w1.heap.size := fun b hb => hu.lt hb
  refine ⟨⟨?_, ?_, fun p hp => ?_, ?_, ?_, ?_, ?_⟩, ⟨g3.gb, g3.ub, ?_, ?_, g3.c⟩⟩
  · rw [g3.gb, g3.ub]
    exact g3.mv.cell (a := ⟨S.gb, 0, none⟩) (fun q => h.ed.ng q) (m2.cell (a := ⟨S.gb, 0, none⟩) (fun e => h.ng e.symm) hS1.c0)
  · rw [g3.ub]
    refine (hM.mv g3.mv h.nu).cong fun x => ?_
    rw [lku_cons]
    by_cases e : u.nm = x
    · subst e; simp
    · have e2 : ¬ x = u.nm := fun q => e q.symm
      simp [e, e2]
  · rcases List.mem_cons.1 hp with rfl | hp
    · refine ⟨(hu.mv m2 (fun b hb e => by have := hfr b hb; omega)).mv g3.mv (fun b hb e => by have := hfr b hb; have := lE b e; omega), hn, fun b hb q => ?_, hsz⟩
      have := hfr b hb
      have := ltc b hb
      rcases gG b q with r | r
      · have := h.lt r; omega
      · omega
    · refine ⟨(((h.uv p hp).1.below b1).mv m2 (fun b hb e => nu2 p hp b hb (.inr (.inl e)))).mv g3.mv (fun b hb e => nu2 p hp b hb (.inr (.inr e))), (h.uv p hp).2.1, fun b hb q => ?_, (h.uv p hp).2.2.2⟩
      rcases gG b q with r | r
      · exact nu2 p hp b hb r
      · have := ltu p hp b hb; omega
  · refine List.pairwise_cons.2 ⟨fun q hq e => ?_, h.nd⟩
    have := List.find?_eq_none.1 hno q hq
    simp at this
    exact this e.symm
  · rw [kL_cons]; exact hd
  · intro q
    rw [g3.ub] at q
    rcases g3.gr _ q with r | r
    · exact h.nu r
    · omega
  · rw [g3.gb, g3.ub]; exact h.ng
  · exact ((Mv.below b1).trans' (m2.mono (fun k _ e => .inr (.inl e)))).trans' (g3.mv.mono (fun k _ e => .inr (.inr e)))
  · intro k hk
    rcases gG k hk with r | r
    · exact .inl r
    · exact .inr (by omega)
end Go.Proofs.YtcfclknfnadgcaaDoor
