/- The row of strings.SplitSeq at one stroke: a row that keeps its own place in a box; the law of a loop over such a row. -/
import Derived.Test.YtnniahlacfflmaaDoorTP
import Derived.Test.YtnniahlacfflmaaDoorIt
import Derived.Test.YtnniahlacfflmaaDoorShelf
namespace Go.Proofs.YtnniahlacfflmaaDoor
open Go.RowKit Go.Shelf
attribute [local go_sem] Oper.semAt_some
def strLen : Value → Nat
  | .string s => s.size
  | _ => 0
theorem occ1 (l : L) (c : UInt8) (k : Nat) : Lib.occAt l [c] k = (l[k]? == some c) := by
  unfold Lib.occAt
  have : l[k]? = (l.drop k)[0]? := by rw [List.getElem?_drop]; simp
  rw [this]
  cases l.drop k with
  | nil => rfl
  | cons a r =>
    show (c == a && [].isPrefixOf r) = (some a == some c)
    rw [Bool.eq_iff_iff]
    simp
    exact eq_comm
theorem index_at {l : L} {c : UInt8} {k : Nat} (h : Lib.NoOcc l [c] k) (hk : l[k]? = some c) : Lib.index l [c] = k := by
  have hlt : k < l.length := (List.getElem?_eq_some_iff.1 hk).1
  exact Lib.index_hit h (by omega) (by rw [occ1, hk]; simp)
theorem noOcc_next {l : L} {c x : UInt8} {k : Nat} (h : Lib.NoOcc l [c] k) (hk : l[k]? = some x) (hne : x ≠ c) : Lib.NoOcc l [c] (k + 1) :=
  h.succ (by rw [occ1, hk]; simpa using hne)
theorem index_no {l : L} {c : UInt8} (h : Lib.NoOcc l [c] l.length) : Lib.index l [c] = -1 := Lib.index_past (by simp) h (by simp)
theorem index_none' {l : L} {c : UInt8} (h : ∀ x ∈ l, x ≠ c) : Lib.index l [c] = -1 := by
  refine index_no fun j _ => ?_
  rw [occ1]
  cases hj : l[j]? with
  | none => rfl
  | some x => simpa using h x (List.mem_of_getElem? hj)
theorem index_split {a b : L} {c : UInt8} (h : ∀ x ∈ a, x ≠ c) : Lib.index (a ++ c :: b) [c] = a.length := by
  refine index_at (fun j hj => ?_) (by simp)
  rw [occ1, List.getElem?_append_left hj]
  cases hx : a[j]? with
  | none => rfl
  | some x => simpa using h x (List.mem_of_getElem? hx)
theorem split_cases (l : L) (c : UInt8) : (∀ x ∈ l, x ≠ c) ∨ ∃ a b, l = a ++ c :: b ∧ ∀ x ∈ a, x ≠ c := by
  induction l with
  | nil => exact .inl (by simp)
  | cons d r ih =>
    by_cases hd : d = c
    · exact .inr ⟨[], r, by simp [hd], by simp⟩
    · rcases ih with h | ⟨a, b, rfl, h⟩
      · exact .inl (by intro x hx; rcases List.mem_cons.1 hx with rfl | hx; exact hd; exact h x hx)
      · exact .inr ⟨d :: a, b, rfl, by intro x hx; rcases List.mem_cons.1 hx with rfl | hx; exact hd; exact h x hx⟩
theorem pieces_none : ∀ l : L, (∀ x ∈ l, x ≠ 47) → pieces l = [l]
  | [], _ => rfl
  | c :: r, h => by
    have hc : c ≠ 47 := h c (by simp)
    simp only [pieces, if_neg hc]
    rw [pieces_none r (fun x hx => h x (by simp [hx]))]
theorem pieces_split : ∀ (a b : L), (∀ x ∈ a, x ≠ 47) → pieces (a ++ 47 :: b) = a :: pieces b
  | [], b, _ => by simp [pieces]
  | c :: r, b, h => by
    have hc : c ≠ 47 := h c (by simp)
    rw [List.cons_append]
    simp only [pieces, if_neg hc]
    rw [pieces_split r b (fun x hx => h x (by simp [hx]))]
/-- Function g with what it has captured is the row xs, once; it turns its own block o besides. -/
def RowB (P : Program) {α : Type} (g : Nat) (lb : Array Value) (enc : α → Array Value) (xs : List α) (o B : Nat) (E : Nat → Prop) (W : World) : Prop :=
  ∀ (l : Nat) (J : List α → (Nat → Prop) → World → Prop) (Jx : Unit → (Nat → Prop) → World → Prop) (E1 : Nat → Prop) (V : World),
    Mv E W V → Gr E W E1 → Ter B J → Ter B Jx → Yi P l enc J Jx → J xs E1 V →
    Calls P g (#[.func (.yield l) #[] #[]] ++ lb) V fun e V' => (∃ v, e = .returned v) ∧ Mv (fun k => E1 k ∨ k = o) V V' ∧ ((∃ E', Gr E1 V E' ∧ J [] E' V') ∨ (∃ E', Gr E1 V E' ∧ Jx () E' V'))
def encS (l : L) : Array Value := #[.string ⟨l.toArray⟩]
def boxLen (o : Nat) (w : World) : Nat := ((w.cell? ⟨o, 0, none⟩).map strLen).getD 0
theorem boxLen_of {o : Nat} {w : World} {r : ByteArray} (h : w.cell? ⟨o, 0, none⟩ = some (.string r)) : boxLen o w = r.size := by unfold boxLen; rw [h]; rfl
theorem Mv.set {E : Nat → Prop} {W : World} {o : Nat} (h : E o) (v : Value) : Mv E W (W.setCell ⟨o, 0, none⟩ v) :=
  ⟨rfl, rfl, rfl, by simp, fun b _ he => heap_setCell_other _ _ _ _ (fun e => he (e ▸ h))⟩
set_option maxRecDepth 100000 in
set_option maxHeartbeats 4000000 in
theorem split1_row (s : ByteArray) (o b1 b3 B : Nat) (mx : Int) (E : Nat → Prop) (W : World) (hs : s.size ≤ 2000000) (hB : B ≤ o)
    (c0 : W.cell? ⟨o, 0, none⟩ = some (.string s)) (z0 : W.frozen? ⟨o, 0, none⟩ = false) (e0 : ¬ E o) (c1 : W.cell? ⟨b1, 0, none⟩ = some (.string ⟨#[47]⟩)) (e1 : ¬ E b1) (n1 : b1 ≠ o)
    (c3 : W.cell? ⟨b3, 0, none⟩ = some (.int .i64 0)) (e3 : ¬ E b3) (n3 : b3 ≠ o) (cm : W.cell? ⟨0, 0, none⟩ = some (.int .i64 mx)) (em : ¬ E 0) (nm : 0 ≠ o) :
    RowB Tryd.prog 59 #[.pointer (some ⟨b1, 0, none⟩), .pointer (some ⟨o, 0, none⟩), .pointer (some ⟨b3, 0, none⟩)] encS (pieces s.data.toList) o B E W := by
  intro l J Jx E1 V m g hJ hJx hY h0
  have d0 := m.cell e0 c0
  have d1 := m.cell e1 c1
  have d3 := m.cell e3 c3
  have dm := m.cell em cm
  have zV := (m.froz (a := ⟨o, 0, none⟩) e0 (cell_lt c0)).trans z0
  have f0 : ¬ E1 o := Gr.free g (cell_lt c0) e0
  have f1 : ¬ E1 b1 := Gr.free g (cell_lt c1) e1
  have f3 : ¬ E1 b3 := Gr.free g (cell_lt c3) e3
  have fm : ¬ E1 0 := Gr.free g (cell_lt cm) em
  have lo : o < V.heap.size := cell_lt d0
  refine (callsIn_wide (n := 5)).1 ?_
  refine callsIn_of_wp Tryd.func59 rfl trivial ?_ rfl
  simp only [Tryd.ntmps59, List.size_toArray, List.length_cons, List.length_nil, Nat.reduceAdd, Nat.reduceSub, Array.replicate_succ, Array.replicate_zero, List.push_toArray, List.append_toArray, List.nil_append, List.cons_append]
  gi_wp2_with fail
  gi_loopw [7] (fun _ wr => ∃ (r : ByteArray) (E2 : Nat → Prop), r.size ≤ s.size ∧ wr.cell? ⟨o, 0, none⟩ = some (.string r) ∧ wr.frozen? ⟨o, 0, none⟩ = false ∧ Hid (J (pieces r.data.toList) E2 wr) ∧ Hid (Mv (fun k => E1 k ∨ k = o) V wr) ∧ Hid (Gr E1 V E2)) (fun _ wr => boxLen o wr)
  case atStart => exact ⟨s, E1, Nat.le_refl _, d0, zV, h0, Mv.refl _ _, Gr.refl _ _⟩
  case round =>
    obtain ⟨r, E2, hz, k0, kz, hj, hm, hg⟩ := hrel
    have lw : o < wr.heap.size := cell_lt k0
    have gF : Gr (fun k => E1 k ∨ k = o) V E2 := fun k hk => (hg.out k hk).imp Or.inl id
    have hsz := hm.out.size
    have k1 := hm.out.cell (by rintro (h | h); exact f1 h; exact n1 h) d1
    have k3 := hm.out.cell (by rintro (h | h); exact f3 h; exact n3 h) d3
    have km := hm.out.cell (by rintro (h | h); exact fm h; exact nm h) dm
    have g0 : ¬ E2 o := Gr.free hg.out lo f0
    have hix := Tryd.strings_Index r ⟨#[47]⟩ mx wr (by omega) km
    rcases split_cases r.data.toList 47 with hno | ⟨a, b, hab, hno⟩
    · rw [show (⟨#[47]⟩ : ByteArray).data.toList = [47] from rfl, index_none' hno] at hix
      have hj' := hj.out
      rw [pieces_none _ hno] at hj'
      obtain ⟨fn, tmps, assign, body, hy, hR⟩ := hY _ _ E2 wr hj'
      dsimp only [encS] at hy
      rw [Lib.mk_data] at hy
      gi_wp2_with fail
      refine ⟨trivial, (callsIn_wide.2 hix).mono ?_⟩
      rintro e w2 ⟨rfl, rfl⟩
      gi_wp2_with fail
      refine (wide_round' hR).mono ?_
      rintro e W3 ⟨m3, (⟨rfl, E3, g3, hj3⟩ | ⟨rfl, E3, g3, hj3⟩)⟩
      · gi_wp2_with fail
        go_end0
        exact ⟨⟨_, rfl⟩, hm.out.trans gF m3, .inl ⟨E3, hg.out.trans hsz g3, hj3⟩⟩
      · gi_wp2_with fail
        go_end0
        exact ⟨⟨_, rfl⟩, hm.out.trans gF m3, .inr ⟨E3, hg.out.trans hsz g3, hj3⟩⟩
    · have hj' := hj.out
      rw [hab, pieces_split _ _ hno] at hj'
      rw [show (⟨#[47]⟩ : ByteArray).data.toList = [47] from rfl, hab, index_split hno] at hix
      obtain ⟨A, rfl, hAz, hAe⟩ := letters a
      obtain ⟨R, rfl, hRz, hRe⟩ := letters b
      rw [← hAz] at hix
      have hrz : r.size = A.size + 1 + R.size := by
        have := congrArg List.length hab
        rw [List.length_append, List.length_cons, size_list, size_list, size_list] at this
        omega
      have hxA : r.extract 0 A.size = A := by
        rw [Lib.extract_eq, hab, List.drop_zero, Nat.sub_zero, ← size_list, List.take_left, Lib.mk_data]
      have hxR : r.extract (A.size + 1) r.size = R := by
        rw [Lib.extract_eq, hab, ← size_list A, List.drop_append, List.drop_of_length_le (by omega)]
        rw [show A.data.toList.length + 1 - A.data.toList.length = 1 by omega, List.nil_append, List.drop_succ_cons, List.drop_zero, List.take_of_length_le (by rw [size_list, size_list]; omega), Lib.mk_data]
      have i1 : (A.size : Int) ≤ (r.size : Int) := by omega
      have i2 : (A.size : Int) + 1 ≤ (r.size : Int) := by omega
      have hRle : R.size < r.size := by omega
      have hHz : Hid (r.size = A.size + 1 + R.size) := hrz
      obtain ⟨fn, tmps, assign, body, hy, hR⟩ := hY _ _ E2 wr hj'
      dsimp only [encS] at hy
      rw [Lib.mk_data] at hy
      clear hrz hab hno hAz hAe hRz hRe
      gi_wp2_with fail
      refine ⟨trivial, (callsIn_wide.2 hix).mono ?_⟩
      rintro e w2 ⟨rfl, rfl⟩
      gi_wp2_with fail
      refine (wide_round' hR).mono ?_
      rintro e W3 ⟨m3, (⟨rfl, E3, g3, hj3⟩ | ⟨rfl, E3, g3, hj3⟩)⟩
      · have k0' := m3.cell g0 k0
        have kz' := (m3.froz (a := ⟨o, 0, none⟩) g0 lw).trans kz
        have k1' := m3.cell (Gr.free hg.out (cell_lt d1) f1) k1
        gi_wp2_with fail
        have cN : (W3.setCell ⟨o, 0, none⟩ (.string R)).cell? ⟨o, 0, none⟩ = some (.string R) := World.cell?_setCell_same' _ _ _ (by rw [k0']; rfl)
        have zN : (W3.setCell ⟨o, 0, none⟩ (.string R)).frozen? ⟨o, 0, none⟩ = false := by rw [World.frozen?_setCell]; exact kz'
        exact ⟨⟨R, E3, by omega, cN, zN, hJ.keep _ _ _ _ hj3 (Mv.set ⟨Gr.free g3 lw g0, hB⟩ _), (hm.out.trans gF m3).trans' (Mv.set (.inr rfl) _), hg.out.trans hsz g3⟩, by rw [boxLen_of cN, boxLen_of k0]; exact hRle⟩
      · gi_wp2_with fail
        refine bodyPost_ret (results_none rfl _ _ _) rfl ?_
        exact ⟨⟨_, rfl⟩, hm.out.trans gF m3, .inr ⟨E3, hg.out.trans hsz g3, hj3⟩⟩
end Go.Proofs.YtnniahlacfflmaaDoor
