import Derived.Test.YtcfclknfnadgcaaDoorGRnopl
import Derived.Test.YtcfclknfnadgcaaDoorGRnosix
import Derived.Test.YtcfclknfnadgcaaDoorGRnooth
import Derived.Test.YtcfclknfnadgcaaDoorGR2pl
import Derived.Test.YtcfclknfnadgcaaDoorGR2oth
import Derived.Test.YtcfclknfnadgcaaDoorGR3pl
import Derived.Test.YtcfclknfnadgcaaDoorGR3oth
import Derived.Test.YtcfclknfnadgcaaDoorGR4pl
import Derived.Test.YtcfclknfnadgcaaDoorGR4oth
import Derived.Test.YtcfclknfnadgcaaDoorBab
import Derived.Test.YtcfclknfnadgcaaDoorBac
import Derived.Test.YtcfclknfnadgcaaDoorIt3
import Derived.Deep.RegionHeld
/- The contract of graph.relations. -/
namespace Go.Proofs.YtcfclknfnadgcaaDoor
open Go.RowKit Go.Shelf Go.Lib
theorem relations_any (vs : Array Value) (u : Un) (w : World) (hu : UV w vs u) : Calls Tryd.prog 44 #[.agg vs] w (RelsEnd w vs (relsU u)) := by
  by_cases h2 : u.kd = 2
  · cases hp : u.pl
    · exact rel_2_oth vs u w hu h2 hp
    · exact rel_2_pl vs u w hu h2 hp
  by_cases h3 : u.kd = 3
  · cases hp : u.pl
    · exact rel_3_oth vs u w hu h3 hp
    · exact rel_3_pl vs u w hu h3 hp
  by_cases h4 : u.kd = 4
  · cases hp : u.pl
    · exact rel_4_oth vs u w hu h4 hp
    · exact rel_4_pl vs u w hu h4 hp
  cases hp : u.pl
  · by_cases h6 : u.kd = 6
    · exact rel_no_six vs u w hu h6 hp
    · exact rel_no_oth vs u w hu h2 h3 h4 hp h6
  · exact rel_no_pl vs u w hu h2 h3 h4 hp
end Go.Proofs.YtcfclknfnadgcaaDoor
/- A graph's edges in memory, by both of their ends. -/
namespace Go.Proofs.YtcfclknfnadgcaaDoor
open Go.RowKit Go.Shelf Go.Lib
/-- Where a graph lies. -/
structure GS where
  gb : Nat
  ub : Nat
  eb1 : Nat
  eb2 : Nat
  f1 : ByteArray → Option Nat
  f2 : ByteArray → Option Nat
  c : Nat
def hasEd (S : GS) (k : Nat) : Prop := hasE S.eb1 S.f1 k ∨ hasE S.eb2 S.f2 k
def fw (K : Ed → Int) (x : ByteArray) (e : Ed) : Int := if e.2.1 = x then K e else 0
def bw (K : Ed → Int) (x : ByteArray) (e : Ed) : Int := if e.2.2 = x then K e else 0
def updK (K : Ed → Int) (e : Ed) (d : Int) : Ed → Int := fun f => if f = e then K f + d else K f
theorem fw_upd (K : Ed → Int) (e : Ed) (d : Int) : updC (fw K) e.2.1 e d = fw (updK K e d) := by
  funext y f
  unfold updC fw updK
  by_cases h : f = e
  · subst h
    by_cases h2 : f.2.1 = y
    · subst h2; simp
    · have : ¬ y = f.2.1 := fun q => h2 q.symm
      simp [h2, this]
  · simp [h]
theorem bw_upd (K : Ed → Int) (e : Ed) (d : Int) : updC (bw K) e.2.2 e d = bw (updK K e d) := by
  funext y f
  unfold updC bw updK
  by_cases h : f = e
  · subst h
    by_cases h2 : f.2.2 = y
    · subst h2; simp
    · have : ¬ y = f.2.2 := fun q => h2 q.symm
      simp [h2, this]
  · simp [h]
structure Gd (w : World) (S : GS) (K : Ed → Int) : Prop where
  c1 : w.cell? ⟨S.gb, 1, none⟩ = some (.map (some S.eb1))
  c2 : w.cell? ⟨S.gb, 2, none⟩ = some (.map (some S.eb2))
  e1 : En w S.eb1 S.f1 (fw K) S.c
  e2 : En w S.eb2 S.f2 (bw K) S.c
  dj : ∀ k, hasE S.eb1 S.f1 k → ¬ hasE S.eb2 S.f2 k
  ng : ¬ hasEd S S.gb
theorem Gd.lt {w : World} {S : GS} {K : Ed → Int} (h : Gd w S K) {k : Nat} (hk : hasEd S k) : k < w.heap.size := hk.elim h.e1.lt h.e2.lt
theorem Gd.mv {w w' : World} {S : GS} {K : Ed → Int} {E : Nat → Prop} (h : Gd w S K) (m : Mv E w w') (hE : ∀ k, hasEd S k → ¬ E k) (hg : ¬ E S.gb) : Gd w' S K :=
  ⟨m.cell (a := ⟨S.gb, 1, none⟩) hg h.c1, m.cell (a := ⟨S.gb, 2, none⟩) hg h.c2, h.e1.mv m (fun k hk => hE k (.inl hk)), h.e2.mv m (fun k hk => hE k (.inr hk)), h.dj, h.ng⟩
/-- From edges to edges. -/
structure GdGo (S : GS) (w : World) (S' : GS) (w' : World) (n : Nat) : Prop where
  gb : S'.gb = S.gb
  ub : S'.ub = S.ub
  eb1 : S'.eb1 = S.eb1
  eb2 : S'.eb2 = S.eb2
  mv : Mv (hasEd S) w w'
  gr : Gr (hasEd S) w (hasEd S')
  c : S'.c ≤ S.c + n
theorem GdGo.refl (S : GS) (w : World) : GdGo S w S w 0 := ⟨rfl, rfl, rfl, rfl, Mv.refl _ _, Gr.refl _ _, by omega⟩
theorem GdGo.trans {S T U : GS} {w v u : World} {n m : Nat} (h : GdGo S w T v n) (k : GdGo T v U u m) : GdGo S w U u (n + m) :=
  ⟨k.gb.trans h.gb, k.ub.trans h.ub, k.eb1.trans h.eb1, k.eb2.trans h.eb2, h.mv.trans h.gr k.mv, h.gr.trans h.mv.size k.gr, by have := h.c; have := k.c; omega⟩
theorem GdGo.below {S : GS} {w w' : World} (b : Below w.heap.size w w') : GdGo S w S w' 0 := ⟨rfl, rfl, rfl, rfl, Mv.below b, Gr.refl _ _, by omega⟩
theorem GdGo.mono {S T : GS} {w v : World} {n m : Nat} (h : GdGo S w T v n) (hm : n ≤ m) : GdGo S w T v m := ⟨h.gb, h.ub, h.eb1, h.eb2, h.mv, h.gr, by have := h.c; omega⟩
theorem fw_at (K : Ed → Int) (e : Ed) : fw K e.2.1 e = K e := by unfold fw; rw [if_pos rfl]
theorem bw_at (K : Ed → Int) (e : Ed) : bw K e.2.2 e = K e := by unfold bw; rw [if_pos rfl]
/-- An edge told of once more, or once less: first by its from. -/
theorem Gd.fst {w w1 : World} {S : GS} {K : Ed → Int} (h : Gd w S K) {f1' : ByteArray → Option Nat} (g1 : EnGo w S.eb1 S.f1 w1 f1') :
    w1.cell? ⟨S.gb, 1, none⟩ = some (.map (some S.eb1)) ∧ w1.cell? ⟨S.gb, 2, none⟩ = some (.map (some S.eb2)) ∧ En w1 S.eb2 S.f2 (bw K) (S.c + 1) ∧ ∀ k, hasE S.eb1 f1' k → ¬ hasE S.eb2 S.f2 k :=
  ⟨g1.mv.cell (a := ⟨S.gb, 1, none⟩) (fun q => h.ng (.inl q)) h.c1, g1.mv.cell (a := ⟨S.gb, 2, none⟩) (fun q => h.ng (.inl q)) h.c2, (h.e2.mv g1.mv (fun k hk q => h.dj k q hk)).up (by omega),
    fun k hk q => by rcases g1.gr k hk with r | r; exact h.dj k r q; have := h.e2.lt q; omega⟩
theorem Gd.snd {w w1 w2 : World} {S : GS} {K : Ed → Int} (h : Gd w S K) {e : Ed} {d : Int} {f1' f2' : ByteArray → Option Nat} (h1 : En w1 S.eb1 f1' (updC (fw K) e.2.1 e d) (S.c + 1)) (g1 : EnGo w S.eb1 S.f1 w1 f1')
    (h2 : En w2 S.eb2 f2' (updC (bw K) e.2.2 e d) (S.c + 2)) (g2 : EnGo w1 S.eb2 S.f2 w2 f2') : ∃ S', Gd w2 S' (updK K e d) ∧ GdGo S w S' w2 2 := by
  obtain ⟨a1, a2, a3, a4⟩ := h.fst g1
  have hgb : S.gb < w.heap.size := cell_lt h.c1
  have hgb1 : S.gb < w1.heap.size := Nat.lt_of_lt_of_le hgb g1.mv.size
  refine ⟨{ S with f1 := f1', f2 := f2', c := S.c + 2 }, ⟨g2.mv.cell (a := ⟨S.gb, 1, none⟩) (fun q => h.ng (.inr q)) a1, g2.mv.cell (a := ⟨S.gb, 2, none⟩) (fun q => h.ng (.inr q)) a2, ?_, ?_, fun k hk q => ?_, fun q => ?_⟩, ⟨rfl, rfl, rfl, rfl, ?_, fun k hk => ?_, by show S.c + 2 ≤ _; omega⟩⟩
  · rw [← fw_upd]
    exact (h1.mv g2.mv (fun k hk q => a4 k hk q)).up (by show S.c + 1 ≤ S.c + 2; omega)
  · rw [← bw_upd]; exact h2
  · rcases g2.gr k q with r | r
    · exact a4 k hk r
    · have := h1.lt hk; omega
  · rcases q with q | q
    · rcases g1.gr _ q with r | r
      · exact h.ng (.inl r)
      · change w.heap.size ≤ S.gb at r; omega
    · rcases g2.gr _ q with r | r
      · exact h.ng (.inr r)
      · change w1.heap.size ≤ S.gb at r; omega
  · exact (g1.mv.mono (fun k _ q => .inl q)).trans' (g2.mv.mono (fun k _ q => .inr q))
  · rcases hk with q | q
    · exact (g1.gr k q).imp .inl id
    · rcases g2.gr k q with r | r
      · exact .inl (.inr r)
      · exact .inr (Nat.le_trans g1.mv.size r)
/-- How often an edge stands in a row. -/
def cn (f : Ed) : List Ed → Nat
  | [] => 0
  | e :: r => (if e = f then 1 else 0) + cn f r
theorem cn_app (f : Ed) : ∀ a b, cn f (a ++ b) = cn f a + cn f b
  | [], _ => by simp [cn]
  | x :: a, b => by simp [cn, cn_app f a b]; omega
theorem cn_mem {f : Ed} : ∀ {l : List Ed}, cn f l ≠ 0 ↔ f ∈ l
  | [] => by simp [cn]
  | e :: r => by
    have := cn_mem (f := f) (l := r)
    simp only [cn, List.mem_cons]
    by_cases h : e = f
    · simp [h]
    · have h2 : ¬ f = e := fun q => h q.symm
      simp [h, h2, this]
/-- Told of by d more, each of a row. -/
def addL (K : Ed → Int) (l : List Ed) (d : Int) : Ed → Int := fun f => K f + d * (cn f l : Int)
theorem addL_cons (K : Ed → Int) (e : Ed) (l : List Ed) (d : Int) : addL (updK K e d) l d = addL K (e :: l) d := by
  funext f
  unfold addL updK
  simp only [cn]
  by_cases h : f = e
  · subst h
    simp only [if_true, Int.natCast_add, Int.mul_add]
    omega
  · have h2 : ¬ e = f := fun q => h q.symm
    simp [h, h2]
theorem addL_nil (K : Ed → Int) (d : Int) : addL K [] d = K := by funext f; unfold addL; simp [cn]
theorem tol_ok {u : Un} (hn : u.nm.size ≤ 1000) {e : Ed} (he : e ∈ tolU u) : okE e := by
  unfold tolU at he
  obtain ⟨r, hr, he⟩ := List.mem_flatMap.1 he
  unfold edR at he
  obtain ⟨o, ho, rfl⟩ := List.mem_map.1 he
  have hk : -9223372036854775808 ≤ r.1 ∧ r.1 ≤ 9223372036854775807 := by
    unfold relsU rels7 relsT relsD at hr
    simp only [List.mem_append] at hr
    rcases hr with (hr | hr) | hr
    · simp only [List.mem_cons, List.not_mem_nil, or_false] at hr
      rcases hr with rfl | rfl | rfl | rfl | rfl | rfl | rfl <;> simp
    · split at hr
      · simp only [List.mem_cons, List.not_mem_nil, or_false] at hr
        rcases hr with rfl | rfl <;> simp
      · cases hr
    · split at hr
      · cases hr
      · split at hr <;> simp only [List.mem_cons, List.not_mem_nil, or_false] at hr <;> rcases hr with rfl | rfl <;> simp
  have ho2 := (List.mem_filter.1 ho).2
  have hs : o.size ≤ 60 := by
    unfold okO at ho2
    simp at ho2
    exact isN_le ho2.2
  unfold edO
  split
  · exact ⟨hk, by show o.size ≤ 1000; omega, hn⟩
  · exact ⟨hk, hn, by show o.size ≤ 1000; omega⟩
end Go.Proofs.YtcfclknfnadgcaaDoor
/- A region that draws its order, in a round of a loop over a function: by the laws of held regions outside of it. -/
namespace Go.Proofs.YtcfclknfnadgcaaDoor
open Go.RowKit Go.Shelf
def noDefer (ops : Array Oper) : Bool := ops.all fun o => match o.op with | .defer _ => false | _ => true
theorem op_round {P : Program} {o : Oper} {a : Act} {w : World} {K : Act → World → Prop} {Q : Exit → Act → World → Prop} {l n : Nat} (hd : ∀ c, o.op ≠ .defer c) (h : o.wp P a w K Q) : o.wpIn (Fence.wide.inRound l) n P a w K Q := by
  refine ⟨fun _ _ => trivial, ?_⟩
  rw [Oper.semAt_plain _ _ _ hd]
  unfold Oper.wp at h
  generalize (execOp a.eval o).run P w = r at *
  cases r with
  | ok x w' =>
    cases x
    case value v => exact h
    case skip => exact h
    case defer d => exact h
    case enter f args => exact ⟨fun e => (by cases e), CallsIn.inRound l (callsIn_wide.2 h)⟩
    case row row args => exact ⟨fun e => (by cases e), fun c cs _ => by obtain ⟨v, w2, r, s⟩ := h c cs; exact ⟨v, w2, r, stepsIn_wide.2 s⟩⟩
    all_goals exact h.elim
  | halt x w' =>
    cases x
    case panic v => exact h
    all_goals exact h.elim
theorem any_round {P : Program} {md : Region.Mode} {ops : Array Oper} {Q : Exit → Act → World → Prop} {l n : Nat} (hd : noDefer ops = true) (hQ : ¬ LetsOut Q) : ∀ (fuel : Nat) (listed : Array Bool) (a : Act) (w : World), wpAny P md ops Q fuel listed a w → wpAnyIn (Fence.wide.inRound l) n P md ops Q fuel listed a w
  | 0, _, _, _, h => h
  | fuel + 1, listed, a, w, h => by
    refine ⟨h.1, fun i hi => ?_⟩
    have h2 := h.2 i hi
    unfold wpOp at h2
    unfold wpOpIn
    cases ho : ops[i]? with
    | none => rw [ho] at h2; exact any_round hd hQ fuel _ _ _ h2
    | some o =>
      rw [ho] at h2
      simp only at h2 ⊢
      have hdo : ∀ c, o.op ≠ .defer c := fun c e => by
        have := Array.all_eq_true'.1 hd o (Array.mem_of_getElem? ho)
        rw [e] at this
        cases this
      split
      · rename_i hw
        rw [if_pos hw] at h2
        rcases h2 with h2 | h2
        · exact Oper.wpIn_mono (fun a w h => any_round hd hQ fuel _ _ _ h) (op_round hdo h2)
        · exact absurd h2.2 hQ
      · rename_i hw
        rw [if_neg hw] at h2
        exact ⟨fun _ _ => trivial, any_round hd hQ fuel _ _ _ h2⟩
/-- The region's law in a round. -/
theorem region_round {P : Program} {id : Nat} {ops : Array Oper} {Q : Exit → Act → World → Prop} {a : Act} {w : World} {l n : Nat} {S : World → Prop} (hm : P.follows .mixedOrders = true) (hd : noDefer ops = true) (hQ : ¬ LetsOut Q) (hS : S w.drew)
    (h : S w.drew → wpAnyH P .any ops Q S ops.size (Array.replicate ops.size false) a w.drew) : (Code.region id ops true).wpIn (Fence.wide.inRound l) n P Q a w :=
  wpIn_region_any hm (any_round hd hQ _ _ _ _ (wpAny_of_held _ _ _ _ (h hS)))
end Go.Proofs.YtcfclknfnadgcaaDoor
