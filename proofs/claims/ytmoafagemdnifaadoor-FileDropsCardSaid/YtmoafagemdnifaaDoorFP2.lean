/- Plain mathematics of printing: what is printed is read again. -/
import Derived.Test.YtmoafagemdnifaaDoorFP1
import Derived.Test.YtmoafagemdnifaaDoorLN9
import Derived.Test.YtmoafagemdnifaaDoorF6a
namespace Go.Proofs.YtmoafagemdnifaaDoor
open Lin
/-- A key. -/
def GoodK (k : L) : Prop := made al k = true ∧ k.length ≤ 400
/-- A section's name; a setting, as they can be printed. -/
def GoodN (n : L) : Prop := made sc n = true ∧ n.length + 2 ≤ 400
structure GoodV (v : L) : Prop where
  len : v.length ≤ 400
  nl : ∀ c ∈ v, c ≠ 10
  hd : ∀ c r, v = c :: r → bl c = false
  lt : ∀ a c, v = a ++ [c] → bl c = false
theorem made_iff {p : UInt8 → Bool} {l : L} (h : made p l = true) : (∀ c ∈ l, p c = true) ∧ l ≠ [] := by
  unfold made at h
  simp only [Bool.and_eq_true, List.all_eq_true, Bool.not_eq_true', beq_eq_false_iff_ne] at h
  exact h
theorem last_app {a b v : L} {c : UInt8} (e : b ++ v = a ++ [c]) (hv : v ≠ []) : ∃ a', v = a' ++ [c] := by
  rcases List.eq_nil_or_concat v with rfl | ⟨d, e', rfl⟩
  · exact absurd rfl hv
  · have h3 : a ++ [c] = (b ++ d) ++ [e'] := by rw [← e]; simp
    have := (List.append_inj' h3 rfl).2
    have hce : c = e' := by simpa using this
    exact ⟨d, by rw [hce]; simp⟩
theorem prs_set' {k v : L} (hk : made al k = true) (hv : GoodV v) : prs (k ++ 61 :: v) = some (2, k, v) := by
  obtain ⟨ha, hne⟩ := made_iff hk
  obtain ⟨c0, r0, rfl⟩ := List.exists_cons_of_ne_nil hne
  have h0 := al_facts (ha c0 (by simp))
  have ht : trim (c0 :: r0 ++ 61 :: v) = c0 :: r0 ++ 61 :: v := by
    refine trim_id (fun c r e => ?_) (fun a c e => ?_)
    · simp only [List.cons_append, List.cons.injEq] at e; rw [← e.1]; exact h0.2.2.2
    · by_cases hvn : v = []
      · subst hvn
        have := (List.append_inj' (s₁ := c0 :: r0) (t₁ := [61]) e rfl).2
        simp at this; rw [← this]; decide
      · obtain ⟨a', ha'⟩ := last_app (b := c0 :: r0 ++ [61]) (by simpa using e) hvn
        exact hv.lt a' c ha'
  have hb : brk (trim (c0 :: r0 ++ 61 :: v)) = false := by
    rw [ht]
    refine brk_no (.inr (.inl ?_))
    simp only [List.cons_append, List.head?_cons, ne_eq, Option.some.injEq]
    rintro rfl
    have := ha 91 (by simp)
    revert this; decide
  rw [prs_eq hb (a := c0 :: r0) (b := v) ht (fun x hx => (al_facts (ha x hx)).2.1)]
  have e1 : trim (c0 :: r0) = c0 :: r0 := trim_id (fun c r e => by cases e; exact h0.2.2.2) (fun a c e => (al_facts (ha c (by rw [e]; simp))).2.2.2)
  have e2 : trim v = v := trim_id hv.hd hv.lt
  rw [e1, e2, hk]; rfl
theorem prs_sec' {n : L} (h : made sc n = true) : prs ([91] ++ n ++ [93]) = some (1, n, []) := by
  have ht : trim ([91] ++ n ++ [93]) = [91] ++ n ++ [93] := by
    refine trim_id (fun c r e => ?_) (fun a c e => ?_)
    · simp only [List.cons_append, List.nil_append, List.cons.injEq] at e; rw [← e.1]; decide
    · have := (List.append_inj' e rfl).2
      simp at this; rw [← this]; decide
  have hb : brk (trim ([91] ++ n ++ [93])) = true := by
    rw [ht]
    unfold brk
    have e : ([91] ++ n ++ [93] : L).getLast? = some 93 := by rw [List.getLast?_append]; rfl
    rw [e]
    simp
  have e : ((([91] ++ n ++ [93] : L)).drop 1).take (([91] ++ n ++ [93] : L).length - 2) = n := by simp
  rw [prs_brk hb, ht, e, h]; rfl
theorem no_suf {l : L} (h : ∀ a c, l = a ++ [c] → c ≠ 92) : Lib.hasSuffix l [92] = false := by
  rw [Bool.eq_false_iff]
  intro hs
  rw [suf_iff, List.getLast?_eq_some_iff] at hs
  obtain ⟨a, ha⟩ := hs
  exact h a 92 ha rfl
theorem lout_first {c : UInt8} {r : L} (h1 : bl c = false) (h2 : c ≠ 35) (h3 : c ≠ 59) : lout (c :: r) = false := by
  unfold lout
  rw [trimL_word c r h1]
  simp [h2, h3]
/-- A setting that can be printed. -/
structure GoodX (x : St) : Prop where
  key : made al x.k.data.toList = true
  val : GoodV x.v.data.toList
  bs : ∀ a c, x.v.data.toList = a ++ [c] → c ≠ 92
  len : x.k.size + x.v.size ≤ 399
theorem whl_set {x : St} (h : GoodX x) (n : Nat) (R : L) : whl n 0 [] (pieces (oneL x ++ R)) = (n + 1, x.k.data.toList ++ 61 :: x.v.data.toList) :: whl (n + 1) 0 [] (pieces R) := by
  obtain ⟨ha, hne⟩ := made_iff h.key
  have e : oneL x ++ R = (x.k.data.toList ++ 61 :: x.v.data.toList) ++ 10 :: R := by simp [oneL]
  rw [e, pieces_split _ _ (fun c hc => ?_)]
  · rw [whl_end0 n [] _ _ ?_ ?_]
    · rfl
    · obtain ⟨c0, r0, hk0⟩ := List.exists_cons_of_ne_nil hne
      rw [hk0]
      have h0 := ha c0 (by rw [hk0]; simp)
      refine lout_first (al_facts h0).2.2.2 ?_ ?_ <;> (rintro rfl; revert h0; decide)
    · refine no_suf (fun a c e => ?_)
      by_cases hv : x.v.data.toList = []
      · rw [hv] at e
        have := (List.append_inj' (s₁ := x.k.data.toList) (t₁ := [61]) e rfl).2
        simp at this; rw [← this]; decide
      · obtain ⟨a', ha'⟩ := last_app (b := x.k.data.toList ++ [61]) (by simpa using e) hv
        exact h.bs a' c ha'
  · rcases List.mem_append.1 hc with hc | hc
    · exact (al_facts (ha c hc)).1
    · rcases List.mem_cons.1 hc with rfl | hc
      · decide
      · exact h.val.nl c hc
theorem whl_sec {nm : L} (h : GoodN nm) (n : Nat) (R : L) : whl n 0 [] (pieces ([91] ++ nm ++ [93, 10] ++ R)) = (n + 1, [91] ++ nm ++ [93]) :: whl (n + 1) 0 [] (pieces R) := by
  obtain ⟨ha, hne⟩ := made_iff h.1
  have e : [91] ++ nm ++ [93, 10] ++ R = ([91] ++ nm ++ [93]) ++ 10 :: R := by simp
  rw [e, pieces_split _ _ (fun c hc => ?_)]
  · rw [whl_end0 n [] _ _ ?_ ?_]
    · rfl
    · exact lout_first (by decide) (by decide) (by decide)
    · refine no_suf (fun a c e => ?_)
      have := (List.append_inj' e rfl).2
      simp at this; rw [← this]; decide
  · simp only [List.mem_append, List.mem_cons, List.not_mem_nil, or_false] at hc
    rcases hc with (rfl | hc) | rfl
    · decide
    · rintro rfl; have := ha 10 hc; revert this; decide
    · decide
/-- What the lines that are printed are read as. -/
theorem read_sets (nm : ByteArray) (hne : nm ≠ ⟨#[]⟩) : ∀ (ls : List St) (n : Nat) (R : L) (l : List Ln), (∀ x ∈ ls, GoodX x) → (∀ m, n ≤ m → True) → lnsW (whl (n + ls.length) 0 [] (pieces R)) = .ok l →
    ∃ l', lnsW (whl n 0 [] (pieces (ls.flatMap oneL ++ R))) = .ok l' ∧ ∀ acc, ∃ g, g.map trip = ls.map (fun x => (nm, x.k, x.v)) ∧ pf nm acc l' = pf nm (acc ++ g) l
  | [], n, R, l, _, _, h => ⟨l, by simpa using h, fun acc => ⟨[], rfl, by simp⟩⟩
  | x :: r, n, R, l, hg, hm, h => by
    have hx := hg x (by simp)
    obtain ⟨l', h1, h2⟩ := read_sets nm hne r (n + 1) R l (fun y hy => hg y (by simp [hy])) (fun _ _ => trivial) (by rw [List.length_cons, ← Nat.add_assoc] at h; rw [show n + 1 + r.length = n + r.length + 1 by omega]; exact h)
    have hlen : ¬ 400 < (x.k.data.toList ++ 61 :: x.v.data.toList).length := by
      have := hx.len
      simp only [List.length_append, List.length_cons, size_list]; omega
    refine ⟨(2, x.k.data.toList, x.v.data.toList, n + 1) :: l', ?_, fun acc => ?_⟩
    · rw [List.flatMap_cons, List.append_assoc, whl_set hx]
      simp only [lnsW, if_neg hlen, prs_set' hx.key hx.val, h1]
    · obtain ⟨g, hg1, hg2⟩ := h2 (acc ++ [⟨nm, x.k, x.v, ((n + 1 : Nat) : Int)⟩])
      refine ⟨⟨nm, x.k, x.v, ((n + 1 : Nat) : Int)⟩ :: g, by simp [trip, hg1], ?_⟩
      rw [pf_set (show (2 : Nat) ≠ 1 by decide) hne]
      simp only [Lib.mk_data]
      rw [hg2]; simp
theorem read_prt : ∀ (gs : Gs) (n : Nat), (∀ p ∈ gs, GoodN p.1.data.toList ∧ ∀ x ∈ p.2, GoodX x) →
    ∃ l', lnsW (whl n 0 [] (pieces (prt gs))) = .ok l' ∧ ∀ sec acc, ∃ g, g.map trip = gs.flatMap (fun p => p.2.map (fun x => (p.1, x.k, x.v))) ∧ pf sec acc l' = .ok (acc ++ g)
  | [], n, _ => ⟨[], rfl, fun sec acc => ⟨[], rfl, by simp [pf]⟩⟩
  | (nm, ls) :: r, n, h => by
    obtain ⟨hn, hx⟩ := h (nm, ls) (by simp)
    simp only at hn hx
    obtain ⟨_, hne⟩ := made_iff hn.1
    have hne' : nm ≠ ⟨#[]⟩ := fun e => hne (by rw [e])
    obtain ⟨l, h1, h2⟩ := read_prt r (n + 1 + ls.length) (fun p hp => h p (by simp [hp]))
    obtain ⟨l', h3, h4⟩ := read_sets nm hne' ls (n + 1) (prt r) l hx (fun _ _ => trivial) h1
    have hlen : ¬ 400 < ([91] ++ nm.data.toList ++ [93] : L).length := by
      have := hn.2
      simp only [List.length_append, List.length_cons, List.length_nil]; omega
    refine ⟨(1, nm.data.toList, [], n + 1) :: l', ?_, fun sec acc => ?_⟩
    · have e : prt ((nm, ls) :: r) = [91] ++ nm.data.toList ++ [93, 10] ++ (ls.flatMap oneL ++ prt r) := by simp [prt, secL]
      rw [e, whl_sec hn]
      simp only [lnsW, if_neg hlen, prs_sec' hn.1, h3]
    · obtain ⟨g1, e1, e2⟩ := h4 acc
      obtain ⟨g2, e3, e4⟩ := h2 nm (acc ++ g1)
      refine ⟨g1 ++ g2, by simp [e1, e3], ?_⟩
      rw [pf_sec rfl]
      simp only [Lib.mk_data]
      rw [e2, e4]; simp
/-- What is printed is read again: the same settings, section by section. -/
theorem fil_prt {f : List St} (hg : ∀ p ∈ groups f, GoodN p.1.data.toList ∧ ∀ x ∈ p.2, GoodX x) (hl : (prt (groups f)).length ≤ 4000) : ∃ g, fil (prt (groups f)) = .ok g ∧ g.map trip = (flatG (groups f)).map trip := by
  obtain ⟨l', h1, h2⟩ := read_prt (groups f) 0 hg
  obtain ⟨g, e1, e2⟩ := h2 ⟨#[]⟩ []
  refine ⟨g, ?_, ?_⟩
  · unfold fil lns
    rw [if_neg (by omega), h1]
    unfold filL
    simp only [e2, List.nil_append]
  · rw [e1]
    unfold flatG
    rw [List.map_flatMap]
    have hf := groups_fine f
    have : ∀ gs : Gs, (∀ p ∈ gs, ∀ x ∈ p.2, x.s = p.1) → gs.flatMap (fun p => p.2.map (fun x => (p.1, x.k, x.v))) = gs.flatMap (fun p => p.2.map trip) := by
      intro gs
      induction gs with
      | nil => intro _; rfl
      | cons p r ih =>
        intro hp
        simp only [List.flatMap_cons]
        rw [ih (fun q hq => hp q (by simp [hq]))]
        congr 1
        refine List.map_congr_left (fun x hx => ?_)
        have := hp p (by simp) x hx
        simp [trip, this]
    exact this _ (fun p hp => (hf.own p hp).2)
end Go.Proofs.YtmoafagemdnifaaDoor
