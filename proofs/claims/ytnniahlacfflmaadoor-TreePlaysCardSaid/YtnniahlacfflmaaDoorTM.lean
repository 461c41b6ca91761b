/- A tree in memory. -/
import Derived.Test.YtnniahlacfflmaaDoorTW
import Derived.Test.YtnniahlacfflmaaDoorTB
namespace Go.Proofs.YtnniahlacfflmaaDoor
open Go.RowKit Go.Shelf
def ndV (n : Nd) : Value := .agg #[.bool n.f, .int .i64 n.ins, .bool n.m, .string n.wh, .int .i64 n.un]
structure St where
  bt : Nat
  bh : Nat
  bs : Nat
  p : Pl
  c : Nat
def hf (P : Pl) (x : ByteArray) : Option Value := if inS x P.ks = true then some (ndV (P.nd x)) else none
structure Ts (w : World) (S : St) : Prop where
  c0 : w.cell? ⟨S.bt, 0, none⟩ = some (.map (some S.bh))
  c1 : w.cell? ⟨S.bt, 1, none⟩ = some (.map (some S.bs))
  hm : ∃ m, m ≤ S.c ∧ MS w S.bh m (hf S.p)
  sm : ∃ m f, m ≤ S.c ∧ MS w S.bs m f ∧ ∀ x, (f x).getD (.int .i64 0) = .int .i64 (S.p.st x)
  ne : S.bh ≠ S.bs
  z : ∀ x, x ∉ S.p.ks → S.p.nd x = ndZ
  b1 : ∀ x, -(S.c : Int) ≤ (S.p.nd x).ins ∧ (S.p.nd x).ins ≤ S.c
  b2 : ∀ x, -(S.c : Int) ≤ (S.p.nd x).un ∧ (S.p.nd x).un ≤ S.c
  b3 : ∀ x, 0 ≤ S.p.st x ∧ S.p.st x ≤ S.c
  mx : Mx w
def own (S : St) (k : Nat) : Prop := k = S.bh ∨ k = S.bs
/-- All that a tree lies in, and the library's variable. -/
def hasB (S : St) (k : Nat) : Prop := k = S.bt ∨ k = S.bh ∨ k = S.bs ∨ k = 0
theorem Ts.lt {w : World} {S : St} (h : Ts w S) {k : Nat} (hk : hasB S k) : k < w.heap.size := by
  rcases hk with rfl | rfl | rfl | rfl
  · exact cell_lt h.c0
  · obtain ⟨m, _, q⟩ := h.hm; exact q.lt
  · obtain ⟨m, f, _, q, _⟩ := h.sm; exact q.lt
  · obtain ⟨m, q⟩ := h.mx; exact cell_lt q
theorem Ts.mv {w w' : World} {S : St} {E : Nat → Prop} (h : Ts w S) (m : Mv E w w') (hE : ∀ k, hasB S k → ¬ E k) : Ts w' S := by
  have ht : ¬ E S.bt := hE _ (.inl rfl)
  obtain ⟨m1, a1, q1⟩ := h.hm
  obtain ⟨m2, f2, a2, q2, r2⟩ := h.sm
  exact ⟨m.cell (a := ⟨S.bt, 0, none⟩) ht h.c0, m.cell (a := ⟨S.bt, 1, none⟩) ht h.c1, ⟨m1, a1, q1.mv m (hE _ (.inr (.inl rfl)))⟩, ⟨m2, f2, a2, q2.mv m (hE _ (.inr (.inr (.inl rfl)))), r2⟩, h.ne, h.z, h.b1, h.b2, h.b3, h.mx.mv m (hE _ (.inr (.inr (.inr rfl))))⟩
theorem Ts.below {w w' : World} {S : St} (h : Ts w S) (b : Below w.heap.size w w') : Ts w' S := h.mv (E := fun _ => False) (Mv.below b) (fun _ _ h => h)
theorem Ts.th {w : World} {S : St} (h : Ts w S) : S.bt ≠ S.bh := by obtain ⟨m, _, q⟩ := h.hm; exact q.notCell (a := ⟨S.bt, 0, none⟩) h.c0
theorem Ts.tss {w : World} {S : St} (h : Ts w S) : S.bt ≠ S.bs := by obtain ⟨m, f, _, q, _⟩ := h.sm; exact q.notCell (a := ⟨S.bt, 0, none⟩) h.c0
theorem Ts.mh {w : World} {S : St} (h : Ts w S) : 0 ≠ S.bh := by obtain ⟨m, _, q⟩ := h.hm; obtain ⟨x, hx⟩ := h.mx; exact q.notCell (a := ⟨0, 0, none⟩) hx
theorem Ts.ms {w : World} {S : St} (h : Ts w S) : 0 ≠ S.bs := by obtain ⟨m, f, _, q, _⟩ := h.sm; obtain ⟨x, hx⟩ := h.mx; exact q.notCell (a := ⟨0, 0, none⟩) hx
/-- From S at w to plain P at w'. -/
structure Goes (S : St) (w : World) (P : Pl) (d : Nat) (w' : World) : Prop where
  g : Ts w' { S with p := P, c := S.c + d }
  m : Mv (own S) w w'
theorem Goes.refl {S : St} {w : World} (h : Ts w S) : Goes S w S.p 0 w := ⟨h, Mv.refl _ _⟩
theorem Ts.more {w : World} {S : St} (h : Ts w S) {d : Nat} : Ts w { S with c := S.c + d } := by
  obtain ⟨m1, a1, q1⟩ := h.hm
  obtain ⟨m2, f2, a2, q2, r2⟩ := h.sm
  refine ⟨h.c0, h.c1, ⟨m1, ?_, q1⟩, ⟨m2, f2, ?_, q2, r2⟩, h.ne, h.z, fun x => ?_, fun x => ?_, fun x => ?_, h.mx⟩
  · show m1 ≤ S.c + d; omega
  · show m2 ≤ S.c + d; omega
  · have := h.b1 x; show -((S.c + d : Nat) : Int) ≤ (S.p.nd x).ins ∧ (S.p.nd x).ins ≤ ((S.c + d : Nat) : Int); omega
  · have := h.b2 x; show -((S.c + d : Nat) : Int) ≤ (S.p.nd x).un ∧ (S.p.nd x).un ≤ ((S.c + d : Nat) : Int); omega
  · have := h.b3 x; show 0 ≤ S.p.st x ∧ S.p.st x ≤ ((S.c + d : Nat) : Int); omega
theorem Goes.mono {S : St} {w w' : World} {P : Pl} {d e : Nat} (h : Goes S w P d w') (hd : d ≤ e) : Goes S w P e w' := by
  obtain ⟨k, rfl⟩ : ∃ k, e = d + k := ⟨e - d, by omega⟩
  exact ⟨by have := h.g.more (d := k); rw [Nat.add_assoc] at this; exact this, h.m⟩
theorem Goes.trans {S : St} {w v u : World} {P Q : Pl} {d e : Nat} (h : Goes S w P d v) (k : Goes { S with p := P, c := S.c + d } v Q e u) : Goes S w Q (d + e) u :=
  ⟨by have := k.g; rw [Nat.add_assoc] at this; exact this, h.m.trans' k.m⟩
theorem Goes.below {S : St} {w w' : World} (h : Ts w S) (b : Below w.heap.size w w') : Goes S w S.p 0 w' := ⟨h.below b, Mv.below b⟩
theorem Goes.ahead {S : St} {w v u : World} {Q : Pl} {e : Nat} (b : Below w.heap.size w v) (k : Goes S v Q e u) : Goes S w Q e u := ⟨k.g, (Mv.below b).trans' k.m⟩
theorem Goes.then {S : St} {w v u : World} {P : Pl} {d : Nat} (h : Goes S w P d v) (b : Below v.heap.size v u) : Goes S w P d u := ⟨h.g.below b, h.m.trans' (Mv.below b)⟩
theorem zeroN (w : World) : (zeroValue 61).run Tryd.prog w = .ok (ndV ndZ) w := by kernel_rfl
theorem zeroI (w : World) : (zeroValue 3).run Tryd.prog w = .ok (.int .i64 0) w := by kernel_rfl
theorem Ts.at {w : World} {S : St} (h : Ts w S) (s : ByteArray) : (hf S.p s).getD (ndV ndZ) = ndV (S.p.nd s) := by
  unfold hf
  cases e : inS s S.p.ks with
  | true => rfl
  | false => rw [h.z s (inS_no.1 e)]; rfl
theorem hf_some (P : Pl) (s : ByteArray) : (hf P s).isSome = inS s P.ks := by
  unfold hf
  cases e : inS s P.ks <;> rfl
theorem Ts.look1 {w : World} {S : St} (h : Ts w S) {s : ByteArray} (hs : s.size ≤ 1000) : (Instr.lookup 62 (.map (some S.bh)) (.string s) false).run Tryd.prog w = .ok (ndV (S.p.nd s)) w := by
  obtain ⟨m, _, q⟩ := h.hm
  rw [q.look1 lawS Tryd.underlying62 (zeroN w) (keyS hs), h.at]
theorem Ts.look {w : World} {S : St} (h : Ts w S) {s : ByteArray} (hs : s.size ≤ 1000) : (Instr.lookup 62 (.map (some S.bh)) (.string s) true).run Tryd.prog w = .ok (.tuple #[ndV (S.p.nd s), .bool (inS s S.p.ks)]) w := by
  obtain ⟨m, _, q⟩ := h.hm
  rw [q.look lawS Tryd.underlying62 (zeroN w) (keyS hs), h.at, hf_some]
theorem Ts.stamp {w : World} {S : St} (h : Ts w S) {s : ByteArray} (hs : s.size ≤ 1000) : (Instr.lookup 63 (.map (some S.bs)) (.string s) false).run Tryd.prog w = .ok (.int .i64 (S.p.st s)) w := by
  obtain ⟨m, f, _, q, r⟩ := h.sm
  rw [q.look1 lawS Tryd.underlying63 (zeroI w) (keyS hs), r]
theorem Ts.put {w : World} {S : St} (h : Ts w S) {s : ByteArray} (hs : s.size ≤ 1000) (n : Nd) (ks : List ByteArray) (hk : ∀ x, x ∈ ks ↔ x = s ∨ x ∈ S.p.ks) (hc : S.c ≤ 1000000)
    (hi : -((S.c : Int) + 1) ≤ n.ins ∧ n.ins ≤ S.c + 1) (hu : -((S.c : Int) + 1) ≤ n.un ∧ n.un ≤ S.c + 1) :
    ∃ w', (Instr.mapUpdate 62 (.map (some S.bh)) (.string s) (ndV n)).run Tryd.prog w = .ok () w' ∧ Goes S w { S.p with ks := ks, nd := up S.p.nd s n } 1 w' := by
  obtain ⟨m, hm, q⟩ := h.hm
  obtain ⟨w', hrun, ho, mv⟩ := q.store lawS (fun _ _ => eS_inj) klS Tryd.underlying62 (keyS hs) (ndV n) (by unfold maxLen; omega)
  obtain ⟨m2, f2, a2, q2, r2⟩ := h.sm
  refine ⟨w', hrun, ⟨mv.cell (a := ⟨S.bt, 0, none⟩) h.th h.c0, mv.cell (a := ⟨S.bt, 1, none⟩) h.th h.c1, ⟨_, ?_, ho.cong (fun x => ?_)⟩, ⟨m2, f2, ?_, q2.mv mv (Ne.symm h.ne), r2⟩, h.ne, fun x hx => ?_, fun x => ?_, fun x => ?_, fun x => ?_, h.mx.mv mv h.mh⟩, mv.mono (fun k _ e => .inl e)⟩
  · show upN _ m ≤ S.c + 1; unfold upN; split <;> omega
  · show hf { S.p with ks := ks, nd := up S.p.nd s n } x = _
    unfold hf
    by_cases e : x = s
    · subst e
      rw [if_pos rfl, if_pos (inS_iff.2 ((hk x).2 (.inl rfl)))]
      show some (ndV (up S.p.nd x n x)) = _
      rw [up_same]
    · rw [if_neg e]
      show (if inS x ks = true then some (ndV (up S.p.nd s n x)) else none) = _
      rw [up_other _ _ e]
      have : (inS x ks = true) ↔ (inS x S.p.ks = true) := by rw [inS_iff, inS_iff, hk]; exact ⟨fun h => h.resolve_left e, .inr⟩
      by_cases hx : inS x S.p.ks = true
      · rw [if_pos hx, if_pos (this.2 hx)]
      · rw [if_neg hx, if_neg (fun q => hx (this.1 q))]
  · show m2 ≤ S.c + 1; omega
  · show up S.p.nd s n x = ndZ
    have hx' : ¬ (x = s ∨ x ∈ S.p.ks) := fun q => hx ((hk x).2 q)
    rw [up_other _ _ (fun e => hx' (.inl e)), h.z x (fun e => hx' (.inr e))]
  · show -((S.c + 1 : Nat) : Int) ≤ (up S.p.nd s n x).ins ∧ (up S.p.nd s n x).ins ≤ ((S.c + 1 : Nat) : Int)
    have := h.b1 x
    unfold up
    split <;> omega
  · show -((S.c + 1 : Nat) : Int) ≤ (up S.p.nd s n x).un ∧ (up S.p.nd s n x).un ≤ ((S.c + 1 : Nat) : Int)
    have := h.b2 x
    unfold up
    split <;> omega
  · have := h.b3 x
    show 0 ≤ S.p.st x ∧ S.p.st x ≤ ((S.c + 1 : Nat) : Int)
    omega
theorem Ts.del {w : World} {S : St} (h : Ts w S) {s : ByteArray} (hs : s.size ≤ 1000) (ks : List ByteArray) (hk : ∀ x, x ∈ ks ↔ x ∈ S.p.ks ∧ x ≠ s) (ty : TypeId) :
    ∃ w', (Builtin.delete_ #[62, 9] ty #[.map (some S.bh), .string s]).run Tryd.prog w = .ok (.tuple #[]) w' ∧ Goes S w { S.p with ks := ks, nd := up S.p.nd s ndZ } 1 w' := by
  obtain ⟨m, hm, q⟩ := h.hm
  obtain ⟨w', hrun, ho, mv⟩ := q.drop lawS (fun _ _ => eS_inj) Tryd.underlying62 (keyS hs) ty
  obtain ⟨m2, f2, a2, q2, r2⟩ := h.sm
  refine ⟨w', hrun, ⟨mv.cell (a := ⟨S.bt, 0, none⟩) h.th h.c0, mv.cell (a := ⟨S.bt, 1, none⟩) h.th h.c1, ⟨_, ?_, ho.cong (fun x => ?_)⟩, ⟨m2, f2, ?_, q2.mv mv (Ne.symm h.ne), r2⟩, h.ne, fun x hx => ?_, fun x => ?_, fun x => ?_, fun x => ?_, h.mx.mv mv h.mh⟩, mv.mono (fun k _ e => .inl e)⟩
  · show dnN _ m ≤ S.c + 1; unfold dnN; split <;> omega
  · show hf { S.p with ks := ks, nd := up S.p.nd s ndZ } x = _
    unfold hf
    by_cases e : x = s
    · subst e
      rw [if_pos rfl, if_neg (fun q => ((hk x).1 (inS_iff.1 q)).2 rfl)]
    · rw [if_neg e]
      show (if inS x ks = true then some (ndV (up S.p.nd s ndZ x)) else none) = _
      rw [up_other _ _ e]
      have : (inS x ks = true) ↔ (inS x S.p.ks = true) := by rw [inS_iff, inS_iff, hk]; exact ⟨fun h => h.1, fun h => ⟨h, e⟩⟩
      by_cases hx : inS x S.p.ks = true
      · rw [if_pos hx, if_pos (this.2 hx)]
      · rw [if_neg hx, if_neg (fun q => hx (this.1 q))]
  · show m2 ≤ S.c + 1; omega
  · show up S.p.nd s ndZ x = ndZ
    by_cases e : x = s
    · rw [e, up_same]
    · rw [up_other _ _ e, h.z x (fun q => hx ((hk x).2 ⟨q, e⟩))]
  · show -((S.c + 1 : Nat) : Int) ≤ (up S.p.nd s ndZ x).ins ∧ (up S.p.nd s ndZ x).ins ≤ ((S.c + 1 : Nat) : Int)
    have := h.b1 x
    unfold up ndZ
    split
    · simp only; omega
    · omega
  · show -((S.c + 1 : Nat) : Int) ≤ (up S.p.nd s ndZ x).un ∧ (up S.p.nd s ndZ x).un ≤ ((S.c + 1 : Nat) : Int)
    have := h.b2 x
    unfold up ndZ
    split
    · simp only; omega
    · omega
  · have := h.b3 x
    show 0 ≤ S.p.st x ∧ S.p.st x ≤ ((S.c + 1 : Nat) : Int)
    omega
theorem Ts.mark {w : World} {S : St} (h : Ts w S) {s : ByteArray} (hs : s.size ≤ 1000) (hc : S.c ≤ 1000000) :
    ∃ w', (Instr.mapUpdate 63 (.map (some S.bs)) (.string s) (.int .i64 (S.p.st s + 1))).run Tryd.prog w = .ok () w' ∧ Goes S w { S.p with st := bump S.p.st s } 1 w' := by
  obtain ⟨m2, f2, a2, q2, r2⟩ := h.sm
  obtain ⟨w', hrun, ho, mv⟩ := q2.store lawS (fun _ _ => eS_inj) klS Tryd.underlying63 (keyS hs) (.int .i64 (S.p.st s + 1)) (by unfold maxLen; omega)
  obtain ⟨m, hm, q⟩ := h.hm
  refine ⟨w', hrun, ⟨mv.cell (a := ⟨S.bt, 0, none⟩) h.tss h.c0, mv.cell (a := ⟨S.bt, 1, none⟩) h.tss h.c1, ⟨m, ?_, q.mv mv h.ne⟩, ⟨_, _, ?_, ho, fun x => ?_⟩, h.ne, h.z, fun x => ?_, fun x => ?_, fun x => ?_, h.mx.mv mv h.ms⟩, mv.mono (fun k _ e => .inr e)⟩
  · show m ≤ S.c + 1; omega
  · show upN _ m2 ≤ S.c + 1; unfold upN; split <;> omega
  · show _ = Value.int .i64 (up S.p.st s (S.p.st s + 1) x)
    by_cases e : x = s
    · subst e; rw [if_pos rfl, up_same]; rfl
    · rw [if_neg e, up_other _ _ e, r2]
  · have := h.b1 x
    show -((S.c + 1 : Nat) : Int) ≤ (S.p.nd x).ins ∧ (S.p.nd x).ins ≤ ((S.c + 1 : Nat) : Int)
    omega
  · have := h.b2 x
    show -((S.c + 1 : Nat) : Int) ≤ (S.p.nd x).un ∧ (S.p.nd x).un ≤ ((S.c + 1 : Nat) : Int)
    omega
  · have h1 := h.b3 x
    have h2 := h.b3 s
    show 0 ≤ up S.p.st s (S.p.st s + 1) x ∧ up S.p.st s (S.p.st s + 1) x ≤ ((S.c + 1 : Nat) : Int)
    unfold up
    split <;> omega
end Go.Proofs.YtnniahlacfflmaaDoor
