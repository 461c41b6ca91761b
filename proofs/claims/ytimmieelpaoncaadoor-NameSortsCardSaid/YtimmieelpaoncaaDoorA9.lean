/- The contract of package name's Expand. -/
import Derived.Test.YtimmieelpaoncaaDoorA8
namespace Go.Proofs.YtimmieelpaoncaaDoor
open Go.RowKit Nam
def expV (s u : L) : Value := match cutN u with
  | none => strE none 40
  | some p => strE (expn u p s) 42
theorem spec_len {d : UInt8} {u : L} {p : Prt} {m : L} (h : spec d u p = some m) : m.length ≤ u.length + p.1.length + p.2.1.length + 1 := by
  unfold spec at h
  split at h
  · cases h; omega
  split at h
  · cases h; omega
  split at h
  · cases h; omega
  split at h
  · unfold unesc at h
    cases hr : rd p.2.1 with
    | none => rw [hr] at h; cases h
    | some t =>
      rw [hr] at h
      have := rd_len hr
      simp only [Option.bind_some] at h
      split at h
      · cases h; omega
      · cases h
  split at h
  · cases h; simp
  · cases h
theorem split_size {r A R : ByteArray} (h : r.data.toList = A.data.toList ++ 37 :: R.data.toList) : r.size = A.size + 1 + R.size := by
  have := congrArg List.length h
  rw [List.length_append, List.length_cons, size_list, size_list, size_list] at this
  omega
theorem map_app (o : Option L) (X Y : L) : (o.map (Y ++ ·)).map (X ++ ·) = o.map ((X ++ Y) ++ ·) := by cases o <;> simp
theorem strE_of {o : Option L} {T : ByteArray} {n : Int} (h : o = some T.data.toList) : strE o n = .tuple #[.string T, .int .i64 0] := by
  rw [h]; show Value.tuple #[.string ⟨T.data.toList.toArray⟩, .int .i64 0] = _; rw [Lib.mk_data]
theorem builder_kept {T e : TypeId} {B b : Nat} {p : Value} {bs : List Value} {w w' : World} (h : Lib.BuilderAt T e B b p bs w) (hb : Below w.heap.size w w') : Lib.BuilderAt T e B b p bs w' := by
  obtain ⟨h1, v, h2, h3, h4⟩ := h
  refine ⟨h1, v, (hb.block b (Array.getElem?_eq_some_iff.1 h2).1).trans h2, h3.kept (row := none) ⟨hb.os, hb.tape, hb.output, hb.size, fun k hk _ => hb.block k hk⟩ ?_, h4⟩
  cases hv : v.ownBlock with
  | none => exact .inl rfl
  | some g => exact .inr (by simp)
set_option maxHeartbeats 4000000 in
set_option maxRecDepth 100000 in
theorem expand_any (s U : ByteArray) (w : World) (hg : GlN w) (hs : s.size ≤ 1000000) (hu : U.size ≤ 1000000) :
    Calls Tryd.prog 28 #[.string s, .string U] w fun e w' => e = .returned (expV s.data.toList U.data.toList) ∧ Below w.heap.size w w' := by
  cases h : cutN U.data.toList with
  | none =>
    have hK : Hid (expV s.data.toList U.data.toList = strE none 40) := by show _ = _; unfold expV; rw [h]
    have hc := cutn_none U w hg (by omega) h
    go_enter Tryd.func28, Tryd.ntmps28
    go_wp2_with fail
    refine hc.mono ?_
    rintro e w1 ⟨rfl, hb⟩
    go_wp2_with fail
    go_ret2
    exact ⟨by rw [hK.out]; rfl, hb.alloc hb.size _⟩
  | some p =>
    obtain ⟨_, l1, l2, _⟩ := cutN_len h
    obtain ⟨x, y, m, k⟩ := p
    obtain ⟨A, rfl, hAz, _⟩ := letters x
    obtain ⟨Z, rfl, hZz, _⟩ := letters y
    obtain ⟨E, hEl, hEz, hE⟩ := letters (endk k)
    have hA60 : A.size ≤ 60 := by rw [hAz]; exact l1
    have hZ60 : Z.size ≤ 60 := by rw [hZz]; exact l2
    have hK : Hid (expV s.data.toList U.data.toList = strE (expn U.data.toList (A.data.toList, Z.data.toList, m, k) s.data.toList) 42) := by show _ = _; unfold expV; rw [h]
    have hc := cutn_some U w hg (by omega) A Z E m k h hE.symm
    have hsp := fun d w => specified_any d U A Z E m ((k : Int) + 1) k w (by omega)
    have hsl := fun d => fun mm => fun (hh : spec d U.data.toList (A.data.toList, Z.data.toList, m, k) = some mm) => spec_len hh
    obtain ⟨X0, hX0⟩ : ∃ X0, expn U.data.toList (A.data.toList, Z.data.toList, m, k) = X0 := ⟨_, rfl⟩
    have happ : Hid (∀ a r, (∀ c ∈ a, c ≠ 37) → X0 (a ++ r) = (X0 r).map (a ++ ·)) := by rw [← hX0]; exact expn_app _ _
    have hend : Hid (X0 [37] = none) := by rw [← hX0]; exact expn_end _ _
    have hnil : Hid (X0 [] = some []) := by rw [← hX0]; rfl
    obtain ⟨Y0, hY0⟩ : ∃ Y0 : UInt8 → Option L, (fun d => spec d U.data.toList (A.data.toList, Z.data.toList, m, k)) = Y0 := ⟨_, rfl⟩
    have hsp1 : Hid (∀ d w, Calls Tryd.prog 52 #[.int .u8 d.toNat, .string U, .agg #[.string A, .string Z, .bool m, .string E, .int .i64 ((k : Int) + 1)]] w fun e w' => e = .returned (strB (Y0 d)) ∧ Below w.heap.size w w') := by rw [← hY0]; exact hsp
    have hsp2 : Hid (∀ d t, X0 (37 :: d :: t) = (Y0 d).bind fun m => (X0 t).map (m ++ ·)) := by rw [← hX0, ← hY0]; exact expn_spec _ _
    have hsp3 : Hid (∀ d mm, Y0 d = some mm → mm.length ≤ 1000000 + 121) := by
      rw [← hY0]
      intro d mm hh
      have := hsl d mm hh
      simp only [size_list] at this
      omega
    rw [hX0] at hK
    clear hsp hsl hX0 hY0 hEl hEz hE hAz hZz l1 l2 h
    go_enter Tryd.func28, Tryd.ntmps28
    go_wp2_with fail
    refine hc.mono ?_
    rintro e w1 ⟨rfl, hb1⟩
    go_wp2_with fail
    have hfb := fresh_builder (w1.alloc (.cells #[.string A, .string Z, .bool m, .string E, .int .i64 ((k : Int) + 1)] 46))
    have hcells : Hid ((w1.alloc (.cells #[.string A, .string Z, .bool m, .string E, .int .i64 ((k : Int) + 1)] 46)).cell? ⟨w1.heap.size, 0, none⟩ = some (.string A) ∧ (w1.alloc (.cells #[.string A, .string Z, .bool m, .string E, .int .i64 ((k : Int) + 1)] 46)).cell? ⟨w1.heap.size, 1, none⟩ = some (.string Z) ∧ (w1.alloc (.cells #[.string A, .string Z, .bool m, .string E, .int .i64 ((k : Int) + 1)] 46)).cell? ⟨w1.heap.size, 2, none⟩ = some (.bool m) ∧ (w1.alloc (.cells #[.string A, .string Z, .bool m, .string E, .int .i64 ((k : Int) + 1)] 46)).cell? ⟨w1.heap.size, 3, none⟩ = some (.string E) ∧ (w1.alloc (.cells #[.string A, .string Z, .bool m, .string E, .int .i64 ((k : Int) + 1)] 46)).cell? ⟨w1.heap.size, 4, none⟩ = some (.int .i64 ((k : Int) + 1))) :=
      ⟨cell_at rfl rfl, cell_at rfl rfl, cell_at rfl rfl, cell_at rfl rfl, cell_at rfl rfl⟩
    have hbA : Hid (Below w.heap.size w (w1.alloc (.cells #[.string A, .string Z, .bool m, .string E, .int .i64 ((k : Int) + 1)] 46))) := hb1.alloc hb1.size _
    obtain ⟨W0, hW0⟩ : ∃ W0, w1.alloc (.cells #[.string A, .string Z, .bool m, .string E, .int .i64 ((k : Int) + 1)] 46) = W0 := ⟨_, rfl⟩
    have hz0 : W0.heap.size = w1.heap.size + 1 := by rw [← hW0]; simp
    rw [hW0] at hfb hcells hbA ⊢
    rw [hz0] at hfb
    clear hW0
    go_loopw [0] (fun v wr => ∃ (r : ByteArray) (X : L), v = .string r ∧ X.length + 2000000 * r.size ≤ 2000000 * s.size ∧ Hid (X0 s.data.toList = (X0 r.data.toList).map (X ++ ·)) ∧ Hid (Lib.IsBuilder 53 5 (w1.heap.size + 1) (w1.heap.size + 1) (Lib.byteCells X) wr) ∧ Hid (Below (w1.heap.size + 1) W0 wr)) (fun v _ => strLen v)
    case atStart =>
      refine ⟨s, [], rfl, by simp, by show _ = _; cases X0 s.data.toList <;> rfl, hfb, ?_⟩
      exact (Below.refl _ _).alloc (by omega) _
    case round =>
      obtain ⟨r, X, rfl, hl, hr, hB, hb⟩ := hrel
      have hwz : w1.heap.size + 1 ≤ wr.heap.size := by have := hb.out.size; omega
      have hBw : Hid (Below w.heap.size w wr) := hbA.out.trans (hb.out.mono (by have := hb1.size; omega))
      have hXb : (Lib.byteCells X).length = X.length := Lib.byteCells_length X
      obtain ⟨mx, hmx⟩ := (hg.below hBw.out).mx
      have hcut := fun (hz : r.size < 4294967281) => Tryd.strings_Cut r ⟨#[37]⟩ mx wr hz hmx
      rcases split_cases r.data.toList 37 with hno | ⟨a, b, hab, hno⟩
      · have hcr := cut_none hno
        have hcut' : Hid (Calls Tryd.prog 51 #[.string r, .string ⟨#[37]⟩] wr fun e w' => e = .returned (.tuple #[.string r, .string ⟨#[]⟩, .bool false]) ∧ ∃ n, w' = wr.drewN n) := by
          have := hcut (by omega)
          rw [show (⟨#[37]⟩ : ByteArray).data.toList = [37] from rfl, hcr] at this
          simp only [Lib.mk_data] at this
          exact this
        have hT : Hid (X0 s.data.toList = some (X ++ r.data.toList)) := by
          show _ = _
          have := happ.out r.data.toList [] hno
          rw [List.append_nil] at this
          rw [hr.out, this, hnil.out]
          simp
        obtain ⟨T, hTl, hTz, hTe⟩ := letters (X ++ r.data.toList)
        rw [← hTl] at hT
        clear hcut hcr hno hmx
        go_wp2_with fail
        refine hcut'.out.mono ?_
        rintro e w2 ⟨rfl, n, rfl⟩
        go_wp2_with fail
        refine (Tryd.Builder_WriteString (w1.heap.size + 1) (w1.heap.size + 1) (Lib.byteCells X) r _ (drewN_builder hB.out n) (by omega) hwz).mono ?_
        rintro e w3 ⟨rfl, h3, hb3⟩
        rw [Lib.strCells_eq, ← Lib.byteCells_append, ← hTl] at h3
        have hz3 := hb3.size
        go_wp2_with fail
        refine (Tryd.Builder_String_any (w1.heap.size + 1) (w1.heap.size + 1) T.data.toList w3 (.inr h3) (by have : wr.heap.size ≤ w3.heap.size := hz3; omega)).mono ?_
        rintro e w4 ⟨rfl, hb4⟩
        go_wp2_with fail
        go_ret2
        refine ⟨by rw [hK.out, hT.out]; rfl, ?_⟩
        exact ((below_drewN hBw.out n).trans (hb3.mono (by have := hb1.size; omega))).trans (hb4.mono (by have := hb1.size; omega))
      · have hcr := cut_split (b := b) hno
        obtain ⟨P, rfl, hPz, hPe⟩ := letters a
        obtain ⟨R, rfl, hRz, hRe⟩ := letters b
        have hsz := split_size hab
        have hcut' : Hid (Calls Tryd.prog 51 #[.string r, .string ⟨#[37]⟩] wr fun e w' => e = .returned (.tuple #[.string P, .string R, .bool true]) ∧ ∃ n, w' = wr.drewN n) := by
          have := hcut (by omega)
          rw [show (⟨#[37]⟩ : ByteArray).data.toList = [37] from rfl, hab, hcr] at this
          simp only [Lib.mk_data] at this
          exact this
        have hT : Hid (X0 s.data.toList = (X0 (37 :: R.data.toList)).map ((X ++ P.data.toList) ++ ·)) := by
          show _ = _
          rw [hr.out, hab, happ.out _ _ hno, map_app]
        obtain ⟨T, hTl, hTz, hTe⟩ := letters (X ++ P.data.toList)
        rw [← hTl] at hT
        have hTz' : T.size = X.length + P.size := by rw [hTz, List.length_append, size_list]
        clear hcut hcr hno hmx hab hPz hPe hRz hRe hTz hTe
        cases hR0 : (R.toList == [])
        · have hne : R.data.toList ≠ [] := fun e => by rw [Lib.toList_data, e] at hR0; cases hR0
          have hRz : 0 < R.size := by rw [← size_list]; exact List.length_pos_iff.2 hne
          have hRI : (1 : Int) ≤ (R.size : Int) := by omega
          obtain ⟨D, hD⟩ : ∃ D, R.extract 1 R.size = D := ⟨_, rfl⟩
          have hDl : D.data.toList = R.data.toList.drop 1 := by
            rw [← hD, Lib.extract_data, List.take_of_length_le (by rw [List.length_drop, size_list]; exact Nat.le_refl _)]
          have hDz : D.size + 1 = R.size := by
            have := congrArg List.length hDl
            rw [size_list, List.length_drop, size_list] at this; omega
          obtain ⟨d, hd⟩ : ∃ d, R[0] = d := ⟨_, rfl⟩
          have hcons : R.data.toList = d :: D.data.toList := by
            rw [hDl, ← hd]
            have := List.drop_eq_getElem_cons (l := R.data.toList) (i := 0) (by rw [size_list]; omega)
            rw [List.drop_zero] at this
            exact this
          have hT2 : Hid (X0 s.data.toList = ((Y0 d).bind fun m => (X0 D.data.toList).map (m ++ ·)).map (T.data.toList ++ ·)) := by
            show _ = _
            rw [hT.out, hcons, hsp2.out]
          have hsd := hsp1.out d
          clear hne hDl hcons
          cases hY : Y0 d with
          | none =>
            rw [hY] at hsd
            have hsd' : Hid (∀ w, Calls Tryd.prog 52 #[.int .u8 d.toNat, .string U, .agg #[.string A, .string Z, .bool m, .string E, .int .i64 ((k : Int) + 1)]] w fun e w' => e = .returned (.tuple #[.string ⟨#[]⟩, .bool false]) ∧ Below w.heap.size w w') := hsd
            have hT3 : Hid (X0 s.data.toList = none) := by show _ = _; rw [hT2.out, hY]; rfl
            clear hsd
            go_wp2_with fail
            refine hcut'.out.mono ?_
            rintro e w2 ⟨rfl, n, rfl⟩
            go_wp2_with fail
            refine (Tryd.Builder_WriteString (w1.heap.size + 1) (w1.heap.size + 1) (Lib.byteCells X) P _ (drewN_builder hB.out n) (by omega) hwz).mono ?_
            rintro e w3 ⟨rfl, h3, hb3⟩
            have hb03 := (below_drewN hb.out n).trans hb3
            have hBw3 : Hid (Below w.heap.size w w3) := (below_drewN hBw.out n).trans (hb3.mono (by have := hb1.size; omega))
            obtain ⟨q0, q1, q2, q3, q4⟩ := hcells.out
            replace q0 := (hb03.cell (p := ⟨w1.heap.size, 0, none⟩) (Nat.lt_succ_self _)).trans q0
            replace q1 := (hb03.cell (p := ⟨w1.heap.size, 1, none⟩) (Nat.lt_succ_self _)).trans q1
            replace q2 := (hb03.cell (p := ⟨w1.heap.size, 2, none⟩) (Nat.lt_succ_self _)).trans q2
            replace q3 := (hb03.cell (p := ⟨w1.heap.size, 3, none⟩) (Nat.lt_succ_self _)).trans q3
            replace q4 := (hb03.cell (p := ⟨w1.heap.size, 4, none⟩) (Nat.lt_succ_self _)).trans q4
            have hlt3 : w1.heap.size < w3.heap.size := by have : wr.heap.size ≤ w3.heap.size := hb3.size; omega
            go_wp2_with fail
            go_region_held3 (fun w' => w'.cell? ⟨w1.heap.size, 0, none⟩ = some (.string A) ∧ w'.cell? ⟨w1.heap.size, 1, none⟩ = some (.string Z) ∧ w'.cell? ⟨w1.heap.size, 2, none⟩ = some (.bool m) ∧ w'.cell? ⟨w1.heap.size, 3, none⟩ = some (.string E) ∧ w'.cell? ⟨w1.heap.size, 4, none⟩ = some (.int .i64 ((k : Int) + 1)))
              (first
                | exact ⟨q0, q1, q2, q3, q4⟩
                | exact hS)
              ((go_at_call 52; refine (hsd'.out _).mono ?_; rintro e w4 ⟨rfl, hb4⟩; have hS := And.intro ((hb4.cell (p := ⟨w1.heap.size, 0, none⟩) hlt3).trans q0) (And.intro ((hb4.cell (p := ⟨w1.heap.size, 1, none⟩) hlt3).trans q1) (And.intro ((hb4.cell (p := ⟨w1.heap.size, 2, none⟩) hlt3).trans q2) (And.intro ((hb4.cell (p := ⟨w1.heap.size, 3, none⟩) hlt3).trans q3) ((hb4.cell (p := ⟨w1.heap.size, 4, none⟩) hlt3).trans q4))))))
            go_wp2_with fail
            go_ret2
            refine ⟨by rw [hK.out, hT3.out]; rfl, ?_⟩
            exact hBw3.out.drew.trans (hb4.mono hBw3.out.size)
          | some mm =>
            obtain ⟨M, rfl, hMz, hMe⟩ := letters mm
            have hml := hsp3.out d _ hY
            rw [size_list] at hml
            rw [hY] at hsd
            have hsd' : Hid (∀ w, Calls Tryd.prog 52 #[.int .u8 d.toNat, .string U, .agg #[.string A, .string Z, .bool m, .string E, .int .i64 ((k : Int) + 1)]] w fun e w' => e = .returned (.tuple #[.string M, .bool true]) ∧ Below w.heap.size w w') := by
              intro w
              have := hsd w
              unfold strB at this
              simp only [hMe] at this
              exact this
            have hT3 : Hid (X0 s.data.toList = (X0 D.data.toList).map ((T.data.toList ++ M.data.toList) ++ ·)) := by
              show _ = _
              rw [hT2.out, hY]
              show ((X0 D.data.toList).map (M.data.toList ++ ·)).map (T.data.toList ++ ·) = _
              rw [map_app]
            clear hsd hMz hMe
            go_wp2_with fail
            refine hcut'.out.mono ?_
            rintro e w2 ⟨rfl, n, rfl⟩
            go_wp2_with fail
            refine (Tryd.Builder_WriteString (w1.heap.size + 1) (w1.heap.size + 1) (Lib.byteCells X) P _ (drewN_builder hB.out n) (by omega) hwz).mono ?_
            rintro e w3 ⟨rfl, h3, hb3⟩
            have hb03 := (below_drewN hb.out n).trans hb3
            have hBw3 : Hid (Below w.heap.size w w3) := (below_drewN hBw.out n).trans (hb3.mono (by have := hb1.size; omega))
            obtain ⟨q0, q1, q2, q3, q4⟩ := hcells.out
            replace q0 := (hb03.cell (p := ⟨w1.heap.size, 0, none⟩) (Nat.lt_succ_self _)).trans q0
            replace q1 := (hb03.cell (p := ⟨w1.heap.size, 1, none⟩) (Nat.lt_succ_self _)).trans q1
            replace q2 := (hb03.cell (p := ⟨w1.heap.size, 2, none⟩) (Nat.lt_succ_self _)).trans q2
            replace q3 := (hb03.cell (p := ⟨w1.heap.size, 3, none⟩) (Nat.lt_succ_self _)).trans q3
            replace q4 := (hb03.cell (p := ⟨w1.heap.size, 4, none⟩) (Nat.lt_succ_self _)).trans q4
            have hlt3 : w1.heap.size < w3.heap.size := by have : wr.heap.size ≤ w3.heap.size := hb3.size; omega
            go_wp2_with fail
            go_region_held3 (fun w' => w'.cell? ⟨w1.heap.size, 0, none⟩ = some (.string A) ∧ w'.cell? ⟨w1.heap.size, 1, none⟩ = some (.string Z) ∧ w'.cell? ⟨w1.heap.size, 2, none⟩ = some (.bool m) ∧ w'.cell? ⟨w1.heap.size, 3, none⟩ = some (.string E) ∧ w'.cell? ⟨w1.heap.size, 4, none⟩ = some (.int .i64 ((k : Int) + 1)))
              (first
                | exact ⟨q0, q1, q2, q3, q4⟩
                | exact hS)
              ((go_at_call 52; refine (hsd'.out _).mono ?_; rintro e w4 ⟨rfl, hb4⟩; have hS := And.intro ((hb4.cell (p := ⟨w1.heap.size, 0, none⟩) hlt3).trans q0) (And.intro ((hb4.cell (p := ⟨w1.heap.size, 1, none⟩) hlt3).trans q1) (And.intro ((hb4.cell (p := ⟨w1.heap.size, 2, none⟩) hlt3).trans q2) (And.intro ((hb4.cell (p := ⟨w1.heap.size, 3, none⟩) hlt3).trans q3) ((hb4.cell (p := ⟨w1.heap.size, 4, none⟩) hlt3).trans q4))))))
            go_wp2_with fail
            refine (Tryd.Builder_WriteString (w1.heap.size + 1) (w1.heap.size + 1) (Lib.byteCells T.data.toList) M w4 (.inr (builder_kept (by rw [Lib.strCells_eq, ← Lib.byteCells_append, ← hTl] at h3; exact h3) hb4)) (by rw [Lib.byteCells_length, size_list]; omega) (by have : w3.heap.size ≤ w4.heap.size := hb4.size; omega)).mono ?_
            rintro e w5 ⟨rfl, h5, hb5⟩
            rw [Lib.strCells_eq, ← Lib.byteCells_append] at h5
            go_wp2_with fail
            refine ⟨⟨D, T.data.toList ++ M.data.toList, rfl, ?_, hT3, .inr h5, (hb03.drew.trans (hb4.mono (by show _ ≤ w3.heap.size; omega))).trans hb5⟩, by simp [strLen]; omega⟩
            rw [List.length_append, size_list, size_list]; omega
        · have hRe : R.data.toList = [] := by rw [Lib.toList_data] at hR0; simpa using hR0
          have hT2 : Hid (X0 s.data.toList = none) := by show _ = _; rw [hT.out, hRe, hend.out]; rfl
          clear hRe
          go_wp2_with fail
          refine hcut'.out.mono ?_
          rintro e w2 ⟨rfl, n, rfl⟩
          go_wp2_with fail
          refine (Tryd.Builder_WriteString (w1.heap.size + 1) (w1.heap.size + 1) (Lib.byteCells X) P _ (drewN_builder hB.out n) (by omega) hwz).mono ?_
          rintro e w3 ⟨rfl, h3, hb3⟩
          go_wp2_with fail
          go_ret2
          refine ⟨by rw [hK.out, hT2.out]; rfl, ?_⟩
          exact (below_drewN hBw.out n).trans (hb3.mono (by have := hb1.size; omega))
end Go.Proofs.YtimmieelpaoncaaDoor
