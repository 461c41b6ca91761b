/- Contracts of package line's cutWord, Split, Quote. -/
import Derived.Test.YtcihilaofehomaaDoorA2
import Derived.Maps.AppendAt
namespace Go.Proofs.YtcihilaofehomaaDoor
open Go.RowKit Lin
theorem own_below {w w' : World} {base : Nat} {e : TypeId} {size : Nat} {v : Value} {n : Nat} {xs : List Value} (h : w.ownsRow base e size v n xs) (hb : Below w.heap.size w w') : w'.ownsRow base e size v n xs := by
  refine ⟨h.1, ?_⟩
  rcases h.2 with h2 | ⟨g, cap, cur, h1, h2, h3, h4⟩
  · exact .inl h2
  · exact .inr ⟨g, cap, cur, h1, h2, (hb.block g (Array.getElem?_eq_some_iff.1 h3).1).trans h3, h4⟩
theorem cqV_of {o : Option (L × L)} {A B : ByteArray} (h : o = some (A.data.toList, B.data.toList)) : cqV o = .tuple #[.string A, .string B, .bool true] := by
  rw [h]
  show Value.tuple #[.string ⟨A.data.toList.toArray⟩, .string ⟨B.data.toList.toArray⟩, .bool true] = _
  rw [Lib.mk_data, Lib.mk_data]
theorem beq8 (c d : UInt8) (h : c ≠ d) : ((c.toNat : Int) == (d.toNat : Int)) = false := by
  have : ¬ (c.toNat : Int) = (d.toNat : Int) := fun e => h (UInt8.toNat_inj.1 (by omega))
  simpa using this
set_option maxHeartbeats 4000000 in
theorem cutWord_any (s : ByteArray) (w : World) (h0 : 0 < s.size) (hs : s.size ≤ 4000000) :
    Calls Tryd.prog 29 #[.string s] w fun e w' => e = .returned (cqV (cutW s.data.toList)) ∧ Below w.heap.size w w' := by
  obtain ⟨R, hR, hRz, hcons⟩ := uncons s h0
  obtain ⟨c, hc⟩ : ∃ c, s[0] = c := ⟨_, rfl⟩
  rw [hc] at hcons
  have hI : (1 : Int) ≤ (s.size : Int) := by omega
  have hI0 : (0 : Int) < (s.size : Int) := by omega
  by_cases hq : c = 34 ∨ c = 39
  · have hW : Hid (cutW s.data.toList = (cutQ c R.data.toList).bind fun p => if bat p.2 = 0 then some p else none) := by
      show _ = _
      rw [hcons, cutW, if_pos hq]
    have h92 : c ≠ 92 := by rintro rfl; revert hq; decide
    have hcq := fun w => cutQuoted_any R c w (by omega) h92
    have hq' : ((c.toNat : Int) == 34) = true ∨ (((c.toNat : Int) == 34) = false ∧ ((c.toNat : Int) == 39) = true) := by
      rcases hq with h | h
      · left; rw [h]; rfl
      · right; rw [h]; exact ⟨rfl, rfl⟩
    clear hcons hq h92
    cases hp : cutQ c R.data.toList with
    | none =>
      rw [hp] at hcq
      have hN : Hid (cutW s.data.toList = none) := by show _ = _; rw [hW.out, hp]; rfl
      have hcq' : Hid (∀ w, Calls Tryd.prog 49 #[.string R, .int .u8 c.toNat] w fun e w' => e = .returned (.tuple #[.string ⟨#[]⟩, .string ⟨#[]⟩, .bool false]) ∧ Below w.heap.size w w') := hcq
      clear hcq hp
      rcases hq' with hq1 | ⟨hq1, hq2⟩
      all_goals
        go_enter Tryd.func29, Tryd.ntmps29
        go_wp2_with fail
        refine (hcq'.out _).mono ?_
        rintro e w1 ⟨rfl, hb⟩
        go_wp2_with fail
        go_ret3
        exact ⟨by rw [hN.out]; rfl, hb⟩
    | some p =>
      have hlen := cutQ_len hp
      obtain ⟨x, y⟩ := p
      obtain ⟨X, rfl, hXz, hXe⟩ := letters x
      obtain ⟨Y, rfl, hYz, hYe⟩ := letters y
      simp only [size_list] at hlen
      have hcq' : Hid (∀ w, Calls Tryd.prog 49 #[.string R, .int .u8 c.toNat] w fun e w' => e = .returned (.tuple #[.string X, .string Y, .bool true]) ∧ Below w.heap.size w w') := by
        intro w
        have := hcq w
        rw [cqV_of hp] at this
        exact this
      have hba := fun w => blankAt_any Y w (by omega)
      by_cases hbt : bat Y.data.toList = 0
      · have hN : Hid (cqV (cutW s.data.toList) = .tuple #[.string X, .string Y, .bool true]) := cqV_of (by rw [hW.out, hp, Option.bind_some, if_pos hbt])
        rw [hbt] at hba
        have hba' : Hid (∀ w, Calls Tryd.prog 50 #[.string Y] w fun e w' => e = .returned (.int .i64 0) ∧ Below w.heap.size w w') := hba
        clear hcq hp hba hbt hXz hXe hYz hYe hlen
        rcases hq' with hq1 | ⟨hq1, hq2⟩
        all_goals
          go_enter Tryd.func29, Tryd.ntmps29
          go_wp2_with fail
          refine (hcq'.out _).mono ?_
          rintro e w1 ⟨rfl, hb⟩
          go_wp2_with fail
          refine (hba'.out _).mono ?_
          rintro e w2 ⟨rfl, hb2⟩
          go_wp2_with fail
          go_ret3
          exact ⟨by rw [hN.out]; rfl, hb.trans (hb2.mono hb.size)⟩
      · have hN : Hid (cutW s.data.toList = none) := by show _ = _; rw [hW.out, hp, Option.bind_some, if_neg hbt]
        obtain ⟨k, hk⟩ : ∃ k, bat Y.data.toList = k := ⟨_, rfl⟩
        rw [hk] at hba hbt
        have hbn : ((k : Int) != 0) = true := by simp; omega
        have hba' : Hid (∀ w, Calls Tryd.prog 50 #[.string Y] w fun e w' => e = .returned (.int .i64 k) ∧ Below w.heap.size w w') := hba
        clear hcq hp hba hbt hXz hXe hYz hYe hlen hk
        rcases hq' with hq1 | ⟨hq1, hq2⟩
        all_goals
          go_enter Tryd.func29, Tryd.ntmps29
          go_wp2_with fail
          refine (hcq'.out _).mono ?_
          rintro e w1 ⟨rfl, hb⟩
          go_wp2_with fail
          refine (hba'.out _).mono ?_
          rintro e w2 ⟨rfl, hb2⟩
          go_wp2_with fail
          go_ret3
          exact ⟨by rw [hN.out]; rfl, hb.trans (hb2.mono hb.size)⟩
  · have hble := bat_le s.data.toList
    rw [size_list] at hble
    have hba := fun w => blankAt_any s w (by omega)
    obtain ⟨k, hk⟩ : ∃ k, bat s.data.toList = k := ⟨_, rfl⟩
    have hW : cutW s.data.toList = some (s.data.toList.take k, s.data.toList.drop k) := by
      rw [← hk, hcons, cutW, if_neg hq]
    rw [hk] at hba hble
    obtain ⟨A, hA⟩ : ∃ A, s.extract 0 k = A := ⟨_, rfl⟩
    obtain ⟨B, hB⟩ : ∃ B, s.extract k s.size = B := ⟨_, rfl⟩
    have hAl : A.data.toList = s.data.toList.take k := by rw [← hA, Lib.extract_data]; simp
    have hBl : B.data.toList = s.data.toList.drop k := by rw [← hB, Lib.extract_data, List.take_of_length_le (by rw [List.length_drop, size_list]; exact Nat.le_refl _)]
    have hN : Hid (cqV (cutW s.data.toList) = .tuple #[.string A, .string B, .bool true]) := cqV_of (by rw [hW, hAl, hBl])
    have n1 : ((c.toNat : Int) == 34) = false := beq8 c 34 (fun e => hq (.inl e))
    have n2 : ((c.toNat : Int) == 39) = false := beq8 c 39 (fun e => hq (.inr e))
    have hba' : Hid (∀ w, Calls Tryd.prog 50 #[.string s] w fun e w' => e = .returned (.int .i64 k) ∧ Below w.heap.size w w') := hba
    have hkI : (k : Int) ≤ (s.size : Int) := by omega
    clear hba hk hW hAl hBl hq hcons hRz hR
    go_enter Tryd.func29, Tryd.ntmps29
    go_wp2_with fail
    refine (hba'.out _).mono ?_
    rintro e w1 ⟨rfl, hb⟩
    go_wp2_with fail
    go_quiet (fail)
    go_wp2_with fail
    go_ret3
    exact ⟨by rw [hN.out]; rfl, below_drewN hb _⟩
theorem row_news1 (w : World) (c : Value) (t : TypeId) : ∀ j u, [c][j]? = some u → (w.alloc (.cells #[c] t)).cell? ((⟨w.heap.size, 0, none⟩ : Addr).add j) = some u := by
  intro j u hj
  match j, hj with
  | 0, hj => simp at hj; subst hj; simp [Addr.add]
def strs (l : List L) : List Value := l.map fun x => .string ⟨x.toArray⟩
/-- What Split tells. -/
def SplitP (o : Option (List L)) (w : World) (e : Ending) (w' : World) : Prop := match o with
  | none => e = .returned (.tuple #[.slice none 0 0, .int .i64 50]) ∧ Below w.heap.size w w'
  | some l => ∃ v, e = .returned (.tuple #[v, .int .i64 0]) ∧ w'.ownsRow w.heap.size 9 1 v l.length (strs l) ∧ Below w.heap.size w w'
theorem infoS : (Tryd.prog.info? 9).map (fun i => (i.zero, i.size, i.bytes)) = some (some (.string ⟨#[]⟩), 1, 16) := by kernel_rfl
set_option maxRecDepth 100000 in
set_option maxHeartbeats 4000000 in
theorem split_any (s : ByteArray) (w : World) (hs : s.size ≤ 4000000) :
    Calls Tryd.prog 15 #[.string s] w (SplitP (spl s.data.toList) w) := by
  obtain ⟨i0, hinf, hz0, hz1, hz2⟩ := info_parts infoS
  have hsk := skip_any s w
  have hlen := trimL_len s.data.toList
  rw [size_list] at hlen
  have hh : ∀ c r, trimL s.data.toList = c :: r → bl c = false := fun c r h => trimL_head h
  rw [spl_eq]
  revert hsk hlen hh
  generalize trimL s.data.toList = t
  intro hsk hlen hh
  obtain ⟨T, rfl, hTz, hTe⟩ := letters t
  rw [hTe] at hsk
  rw [size_list] at hlen
  have hh' : Hid (∀ c r, T.data.toList = c :: r → bl c = false) := hh
  clear hTe hTz hh
  go_enter Tryd.func15, Tryd.ntmps15
  go_wp2_with fail
  refine hsk.mono ?_
  rintro e w0 ⟨rfl, hb0⟩
  go_wp2_with fail
  go_loopw [4, 5] (fun v i wr => ∃ (r : ByteArray) (X : List L), i = .string r ∧ X.length + r.size ≤ s.size ∧ Hid (∀ c t, r.data.toList = c :: t → bl c = false) ∧ Hid (spl0 T.data.toList = (spl0 r.data.toList).map (X ++ ·)) ∧ Hid (wr.ownsRow w.heap.size 9 1 v X.length (strs X)) ∧ Below w.heap.size w wr) (fun _ i _ => strLen i)
  case atStart => exact ⟨T, [], rfl, by simp; omega, hh', by show _ = _; cases spl0 T.data.toList <;> rfl, World.ownsRow_nil _ _ _ _, hb0⟩
  case round =>
    obtain ⟨r, X, rfl, hl, hhr, hr, hown, hb⟩ := hrel
    have hwz := hb.size
    cases hr0 : (r.toList == [])
    · have hr1 : (r.toList != []) = true := by rw [bne, hr0]; rfl
      have hrz := size_pos hr0
      obtain ⟨R, _, _, hcons⟩ := uncons r hrz
      have hbl := hhr.out _ _ hcons
      have hst : Hid (spl0 T.data.toList = ((cutW r.data.toList).bind fun p => (spl0 (trimL p.2)).map (p.1 :: ·)).map (X ++ ·)) := by
        show _ = _
        rw [hr.out, hcons, spl0_cons hbl]
      have hcl := fun p (h : cutW r.data.toList = some p) => (show p.2.length < r.size ∧ p.1.length ≤ r.size by
        rw [hcons] at h
        have := cutW_len hbl h
        rwa [← hcons, size_list] at this)
      clear hcons hbl
      have hcw := fun w => cutWord_any r w hrz (by omega)
      cases hp : cutW r.data.toList with
      | none =>
        rw [hp] at hcw
        have hN : Hid (spl0 T.data.toList = none) := by show _ = _; rw [hst.out, hp]; rfl
        have hcw' : Hid (∀ w, Calls Tryd.prog 29 #[.string r] w fun e w' => e = .returned (.tuple #[.string ⟨#[]⟩, .string ⟨#[]⟩, .bool false]) ∧ Below w.heap.size w w') := hcw
        clear hcw hp hcl
        go_wp2_with fail
        refine (hcw'.out _).mono ?_
        rintro e1 w1 ⟨rfl, hb1⟩
        go_wp2_with fail
        go_ret2
        rw [hN.out]
        exact ⟨rfl, hb.trans (hb1.mono hb.size)⟩
      | some p =>
        obtain ⟨l1, l2⟩ := hcl p hp
        obtain ⟨x, y⟩ := p
        obtain ⟨A, rfl, hAz, hAe⟩ := letters x
        obtain ⟨Y, rfl, hYz, hYe⟩ := letters y
        simp only [size_list] at l1 l2
        have hlt := trimL_len Y.data.toList
        have hht : Hid (∀ c t, trimL Y.data.toList = c :: t → bl c = false) := fun c t h => trimL_head h
        have hsk2 := fun w => skip_any Y w
        have hN : Hid (spl0 T.data.toList = (spl0 (trimL Y.data.toList)).map ((X ++ [A.data.toList]) ++ ·)) := by
          show _ = _
          rw [hst.out, hp, Option.bind_some]
          cases spl0 (trimL Y.data.toList) <;> simp
        revert hlt hht hsk2 hN
        generalize trimL Y.data.toList = t
        intro hlt hht hsk2 hN
        obtain ⟨Z, rfl, hZz, hZe⟩ := letters t
        rw [hZe] at hsk2
        rw [size_list, size_list] at hlt
        have hcw' : Hid (∀ w, Calls Tryd.prog 29 #[.string r] w fun e w' => e = .returned (.tuple #[.string A, .string Y, .bool true]) ∧ Below w.heap.size w w') := by
          intro w
          have := hcw w
          rw [cqV_of hp] at this
          exact this
        have hsk2' : Hid (∀ w, Calls Tryd.prog 28 #[.string Y] w fun e w' => e = .returned (.string Z) ∧ Below w.heap.size w w') := hsk2
        have hsn : Hid (strs (X ++ [A.data.toList]) = strs X ++ [.string A]) := by show _ = _; unfold strs; rw [List.map_append]; show _ ++ [Value.string ⟨A.data.toList.toArray⟩] = _; rw [Lib.mk_data]
        clear hcw hp hcl hsk2 hZz hZe hAz hAe hYz hYe
        go_wp2_with fail
        refine (hcw'.out _).mono ?_
        rintro e1 w1 ⟨rfl, hb1⟩
        have hown1 := own_below hown.out hb1
        have hb2 := hb.trans (hb1.mono hb.size)
        have hw1 := hb2.size
        have hr1 := hown1.alloc (.cells #[.string A] 9)
        go_wp2_with (at_builtin; refine wpList_append_own_at _ rfl _ _ 37 rfl w.heap.size 9 i0 (.string ⟨#[]⟩) 1 16 Tryd.underlying37 hinf hz0 hz1 hz2 rfl (by decide) _ _ _ rfl hr1 ⟨_, 0, none⟩ 1 1 [.string A] rfl rfl (row_news1 _ _ _) (fun x hx => by simp at hx; subst hx; rfl) (by unfold maxLen; omega) (by omega) (by simp; omega) ?_; intro v' w3 hown' hgrow _ _)
        have hb4 : Below w.heap.size w w3 := (hb2.alloc hw1 _).grown hgrow (by simp; omega) (fun k e => (hr1.lt k e).1)
        refine (hsk2'.out _).mono ?_
        rintro e1 w4 ⟨rfl, hb5⟩
        go_wp2_with fail
        exact ⟨⟨Z, X ++ [A.data.toList], rfl, by simp; omega, hht, hN, by rw [hsn.out, List.length_append]; exact own_below hown' hb5, hb4.trans (hb5.mono hb4.size)⟩, by simp [strLen]; omega⟩
    · have hr1 : (r.toList != []) = false := by rw [bne, hr0]; rfl
      have hN : Hid (spl0 T.data.toList = some X) := by show _ = _; rw [hr.out, size_zero hr0]; simp [spl0_nil]
      go_wp2_with fail
      go_ret2
      rw [hN.out]
      exact ⟨_, rfl, hown.out, hb⟩
theorem quo_snoc (l : L) (c : UInt8) : (l ++ [c]).flatMap q1 = l.flatMap q1 ++ q1 c := by simp
theorem q1_len (c : UInt8) : (q1 c).length ≤ 2 := by unfold q1; split; simp; split <;> simp
theorem quo_len : ∀ l : L, (l.flatMap q1).length ≤ 2 * l.length
  | [] => by simp
  | c :: r => by have := quo_len r; have := q1_len c; rw [List.flatMap_cons, List.length_append, List.length_cons]; omega
theorem strCells_two : Lib.strCells ⟨#[92, 110]⟩ = [.int .u8 92, .int .u8 110] := rfl
set_option maxHeartbeats 4000000 in
theorem quote_any (s : ByteArray) (w : World) (hs : s.size ≤ 1000000) :
    Calls Tryd.prog 18 #[.string s] w fun e w' => e = .returned (.string ⟨(quo s.data.toList).toArray⟩) ∧ Below w.heap.size w w' := by
  have hfb := fresh_builder w
  have hb00 : Below w.heap.size w (w.alloc (.cells #[.pointer none, .slice none 0 0] 68)) := (Below.refl _ _).alloc (Nat.le_refl _) _
  go_enter Tryd.func18, Tryd.ntmps18
  go_wp2_with fail
  refine (Tryd.Builder_WriteByte w.heap.size w.heap.size (Lib.byteCells []) 34 _ hfb (by simp [Lib.byteCells]) (by simp)).mono ?_
  rintro e1 w1 ⟨rfl, h1, hb1⟩
  rw [show (34 : Int) = ((34 : UInt8).toNat : Int) from rfl, ← byteCells_snoc, List.nil_append] at h1
  have hb0 := hb00.trans hb1
  clear hfb hb00 hb1
  go_wp2_with fail
  go_loopw [9] (fun i wr => ∃ k : Nat, k ≤ s.size ∧ i = .int .i64 k ∧ Hid (Lib.IsBuilder 68 5 w.heap.size w.heap.size (Lib.byteCells (34 :: (s.data.toList.take k).flatMap q1)) wr) ∧ Below w.heap.size w wr) (fun i _ => s.size - (intOf i).toNat)
  case atStart => exact ⟨0, by omega, rfl, .inr h1, hb0⟩
  case round =>
    obtain ⟨k, hk, rfl, hB, hb⟩ := hrel
    clear h1 hb0
    have hwz := hb.size
    have htl : Hid ((s.data.toList.take k).length = k) := by show _ = _; rw [List.length_take, size_list]; omega
    obtain ⟨X, hX⟩ : ∃ X, 34 :: (s.data.toList.take k).flatMap q1 = X := ⟨_, rfl⟩
    have hXl : X.length ≤ 4000000 := by
      have := quo_len (s.data.toList.take k)
      rw [htl.out] at this
      rw [← hX, List.length_cons]; omega
    rw [hX] at hB
    have hXb : (Lib.byteCells X).length = X.length := Lib.byteCells_length X
    by_cases hlt : k < s.size
    · have htk : Hid (s.data.toList.take (k + 1) = s.data.toList.take k ++ [s[k]]) := by
        show _ = _
        rw [List.take_add_one, get_list s k hlt]; rfl
      obtain ⟨c, hc⟩ : ∃ c, s[k] = c := ⟨_, rfl⟩
      rw [hc] at htk
      have hE : Hid (34 :: (s.data.toList.take (k + 1)).flatMap q1 = X ++ q1 c) := by
        show _ = _
        rw [htk.out, quo_snoc, ← hX]; rfl
      clear hX
      by_cases hq : c = 34 ∨ c = 92
      · have hE' : Hid (Lib.byteCells (34 :: (s.data.toList.take (k + 1)).flatMap q1) = (Lib.byteCells X ++ [.int .u8 92]) ++ [.int .u8 c.toNat]) := by
          show _ = _
          rw [hE.out, q1, if_pos hq]; simp [Lib.byteCells]
        have hq' : (c.toNat : Int) = 34 ∨ (c.toNat : Int) = 92 := by
          rcases hq with h | h
          · left; rw [h]; rfl
          · right; rw [h]; rfl
        clear hq
        rcases hq' with hq1 | hq1
        all_goals
          rw [hq1] at hE'
          go_wp2_with fail
          refine (Tryd.Builder_WriteByte w.heap.size w.heap.size (Lib.byteCells X) 92 wr hB.out (by omega) hwz).mono ?_
          rintro e1 w1 ⟨rfl, h1, hb1⟩
          have hb2 := hb.trans hb1
          go_wp2_with fail
          refine (Tryd.Builder_WriteByte w.heap.size w.heap.size _ _ w1 (.inr h1) (by simp; omega) hb2.size).mono ?_
          rintro e1 w2 ⟨rfl, h2, hb3⟩
          rw [← hE'.out] at h2
          go_wp2_with fail
          exact ⟨⟨k + 1, by omega, by go_num, .inr h2, hb2.trans hb3⟩, by simp [intOf]; omega⟩
      · have n1 : ((c.toNat : Int) == 34) = false := beq8 c 34 (fun e => hq (.inl e))
        have n2 : ((c.toNat : Int) == 92) = false := beq8 c 92 (fun e => hq (.inr e))
        by_cases h10 : c = 10
        · have hE' : Hid (Lib.byteCells (34 :: (s.data.toList.take (k + 1)).flatMap q1) = Lib.byteCells X ++ Lib.strCells ⟨#[92, 110]⟩) := by
            show _ = _
            rw [hE.out, q1, if_neg hq, if_pos h10]; simp [Lib.byteCells, strCells_two]
          have h10' : (c.toNat : Int) = 10 := by rw [h10]; rfl
          clear hq h10 n1 n2
          go_wp2_with fail
          refine (Tryd.Builder_WriteString w.heap.size w.heap.size (Lib.byteCells X) ⟨#[92, 110]⟩ wr hB.out (by show _ + 2 ≤ _; omega) hwz).mono ?_
          rintro e1 w1 ⟨rfl, h1, hb1⟩
          rw [← hE'.out] at h1
          go_wp2_with fail
          exact ⟨⟨k + 1, by omega, by go_num, .inr h1, hb.trans hb1⟩, by simp [intOf]; omega⟩
        · have hE' : Hid (Lib.byteCells (34 :: (s.data.toList.take (k + 1)).flatMap q1) = Lib.byteCells X ++ [.int .u8 c.toNat]) := by
            show _ = _
            rw [hE.out, q1, if_neg hq, if_neg h10]; simp [Lib.byteCells]
          have n3 : ((c.toNat : Int) == 10) = false := beq8 c 10 h10
          clear hq h10
          go_wp2_with fail
          refine (Tryd.Builder_WriteByte w.heap.size w.heap.size (Lib.byteCells X) c.toNat wr hB.out (by omega) hwz).mono ?_
          rintro e1 w1 ⟨rfl, h1, hb1⟩
          rw [← hE'.out] at h1
          go_wp2_with fail
          exact ⟨⟨k + 1, by omega, by go_num, .inr h1, hb.trans hb1⟩, by simp [intOf]; omega⟩
    · obtain rfl : k = s.size := by omega
      have hE' : Hid (quo s.data.toList = X ++ [34]) := by
        show _ = _
        rw [← hX, List.take_of_length_le (by rw [size_list]; omega)]; rfl
      clear hX
      go_wp2_with fail
      refine (Tryd.Builder_WriteByte w.heap.size w.heap.size (Lib.byteCells X) 34 wr hB.out (by omega) hwz).mono ?_
      rintro e1 w1 ⟨rfl, h1, hb1⟩
      rw [show (34 : Int) = ((34 : UInt8).toNat : Int) from rfl, ← byteCells_snoc, ← hE'.out] at h1
      have hb2 := hb.trans hb1
      go_wp2_with fail
      refine (Tryd.Builder_String_any w.heap.size w.heap.size _ w1 (.inr h1) hb2.size).mono ?_
      rintro e1 w2 ⟨rfl, hb3⟩
      go_wp2_with fail
      go_ret
      exact ⟨rfl, hb2.trans hb3⟩
end Go.Proofs.YtcihilaofehomaaDoor
