import Derived.Test.YtjcdjkfnmobhkaaGreatLKB
/- LoopOnce: plain. -/
namespace Go.Proofs.YtjcdjkfnmobhkaaGreat
open Go.RowKit Go.Shelf Go.Lib
def nmsB : ByteArray := ⟨#[97, 98, 99, 100, 101, 102, 103, 104, 105, 106, 107, 108, 109, 110, 111, 112, 113, 114, 115, 116, 117, 118, 119, 120, 121, 122, 65, 66, 67, 68, 69, 70, 71, 72, 73, 74, 75, 76, 77, 78, 79, 80, 81, 82, 83, 84, 85, 86, 87, 88, 89, 90]⟩
theorem one_len (i : Nat) : (nmsB.extract i (i + 1)).toList.length ≤ 300 := by
  rw [Go.Lib.toList_data, size_list, ByteArray.size_extract]
  omega
theorem t_len : (⟨#[116]⟩ : ByteArray).toList.length ≤ 300 := by rw [Go.Lib.toList_data]; decide
def kn (i : Nat) : TK := ⟨(nmsB.extract i (i + 1), ⟨#[116]⟩), one_len i, t_len⟩
theorem kn_tab : ∀ i : Fin 52, ∀ j : Fin 52, nmsB.extract i (i + 1) = nmsB.extract j (j + 1) → i = j := by decide +kernel
theorem kn_inj {i j : Nat} (hi : i < 52) (hj : j < 52) (h : kn i = kn j) : i = j := by
  have h1 : nmsB.extract i (i + 1) = nmsB.extract j (j + 1) := congrArg (fun k : TK => k.1.1) h
  have := kn_tab ⟨i, hi⟩ ⟨j, hj⟩ h1
  exact congrArg Fin.val this
/-- The timers behind the first i. -/
def Tn (us : List Nat) : Nat → List Du
  | 0 => []
  | i + 1 => setT (kn i) (us.getD i 0 : Nat) (Tn us i)
theorem Tn_all (us : List Nat) : ∀ i, i ≤ 52 → i ≤ us.length → Ts (Tn us i) ∧ (∀ d ∈ Tn us i, ∃ j, j < i ∧ d.k = kn j) ∧ ((Tn us i).map (·.t)).Perm ((us.take i).map fun u : Nat => (u : Int))
  | 0, _, _ => ⟨Ts.nil, (fun _ h => by cases h), by simp [Tn]⟩
  | i + 1, h1, h2 => by
    obtain ⟨a, b, c⟩ := Tn_all us i (by omega) (by omega)
    refine ⟨a.set _ _, fun d hd => ?_, ?_⟩
    · rcases setT_mem.1 hd with e | ⟨e, _⟩
      · exact ⟨i, by omega, by rw [e]; rfl⟩
      · obtain ⟨j, hj, e2⟩ := b d e
        exact ⟨j, by omega, e2⟩
    · have hdel : delT (kn i) (Tn us i) = Tn us i := by
        unfold delT
        refine List.filter_eq_self.2 fun d hd => ?_
        obtain ⟨j, hj, e⟩ := b d hd
        have : ¬ d.k = kn i := fun z => by have := kn_inj (by omega) (by omega) (e.symm.trans z); omega
        simp [this]
      have hu : us[i]? = some (us.getD i 0) := by rw [List.getD_eq_getElem?_getD, List.getElem?_eq_getElem (by omega)]; rfl
      rw [List.take_add_one, hu]
      show ((insA keyD (mkD (kn i) (us.getD i 0 : Nat)) (delT (kn i) (Tn us i))).map (·.t)).Perm _
      rw [hdel]
      refine ((insA_perm keyD _ _).map (·.t)).trans ?_
      rw [List.map_cons, List.map_append]
      refine (c.cons _).trans ?_
      exact (List.perm_append_singleton _ _).symm
/-- How many are due. -/
def cntD (us : List Nat) (now : Int) : Nat := (us.filter fun u : Nat => decide ((u : Int) ≤ now)).length
theorem cnt_perm {T : List Du} {us : List Nat} (h : (T.map (·.t)).Perm (us.map fun u : Nat => (u : Int))) (now : Int) : (T.filter fun d => decide (d.t ≤ now)).length = cntD us now := by
  have h1 := (h.filter fun t => decide (t ≤ now)).length_eq
  rw [List.filter_map, List.filter_map, List.length_map, List.length_map] at h1
  exact h1
theorem cnt_split (T : List Du) {prev now : Int} (h : prev ≤ now) : (T.filter fun d => decide (d.t ≤ prev)).length + ((T.filter fun d => !decide (d.t ≤ prev)).filter fun d => decide (d.t ≤ now)).length = (T.filter fun d => decide (d.t ≤ now)).length := by
  induction T with
  | nil => rfl
  | cons d T ih =>
    by_cases h1 : d.t ≤ prev
    · have h2 : d.t ≤ now := by omega
      simp only [List.filter_cons, h1, h2, decide_true, Bool.not_true, if_true, List.length_cons]
      simp only [Bool.false_eq_true, if_false]
      omega
    · by_cases h2 : d.t ≤ now
      · simp only [List.filter_cons, h1, h2, decide_false, decide_true, Bool.not_false, if_true, List.length_cons]
        simp only [Bool.false_eq_true, if_false]
        omega
      · simp only [List.filter_cons, h1, h2, decide_false, Bool.not_false, if_true]
        simp only [Bool.false_eq_true, if_false]
        exact ih
theorem tr_next (T : List Du) {prev now : Int} (h : prev ≤ now) : ((T.filter fun d => !decide (d.t ≤ prev)).filter fun d => !decide (d.t ≤ now)) = T.filter fun d => !decide (d.t ≤ now) := by
  rw [List.filter_filter]
  refine List.filter_congr fun d _ => ?_
  by_cases h1 : d.t ≤ now
  · simp [h1]
  · have : ¬ d.t ≤ prev := by omega
    simp [h1, this]
theorem cntD_take (us : List Nat) (now : Int) {j u : Nat} (h : us[j]? = some u) : cntD (us.take (j + 1)) now = cntD (us.take j) now + if (u : Int) ≤ now then 1 else 0 := by
  unfold cntD
  rw [List.take_add_one, h, List.filter_append]
  by_cases hu : (u : Int) ≤ now <;> simp [hu]
/-- Rising times. -/
theorem rise {T : List Du} (h : So keyD T) {j : Nat} {x y : Du} (hx : T[j]? = some x) (hy : T[j + 1]? = some y) : x.t ≤ y.t := by
  obtain ⟨h1, e1⟩ := List.getElem?_eq_some_iff.1 hx
  obtain ⟨h2, e2⟩ := List.getElem?_eq_some_iff.1 hy
  have := List.pairwise_iff_getElem.1 h j (j + 1) h1 h2 (by omega)
  rw [e1, e2] at this
  exact keyD_t this
def lastT (xs : List Du) : Nat → Int
  | 0 => -1
  | j + 1 => match xs[j]? with
    | some d => d.t
    | none => -1
theorem last_le {xs : List Du} (h : So keyD xs) (hp : ∀ d ∈ xs, 0 ≤ d.t) {j : Nat} {x : Du} (hx : xs[j]? = some x) : lastT xs j ≤ x.t := by
  cases j with
  | zero => have := hp x (List.mem_of_getElem? hx); show (-1 : Int) ≤ _; omega
  | succ j =>
    have hj : j + 1 < xs.length := (List.getElem?_eq_some_iff.1 hx).1
    have e : xs[j]? = some xs[j] := List.getElem?_eq_getElem (by omega)
    show (match xs[j]? with | some d => d.t | none => -1) ≤ x.t
    rw [e]
    exact rise h e hx
theorem soon_gt {T : List Du} {now : Int} (h : ∀ d ∈ T, now < d.t) (hn : now < 9223372036854775807) : now < (soon T).getD 9223372036854775807 := by
  cases T with
  | nil => exact hn
  | cons d T => exact h d (List.mem_cons_self ..)
end Go.Proofs.YtjcdjkfnmobhkaaGreat
/- LoopOnce: the walk. -/
namespace Go.Proofs.YtjcdjkfnmobhkaaGreat
open Go.RowKit Go.Shelf Go.Lib
attribute [local go_sem] Oper.semAt_some
set_option maxRecDepth 100000 in
set_option maxHeartbeats 8000000 in
theorem once_walk (a : Option Addr) (b o n cap : Nat) (us : List Nat) (a2 : Option Addr) (b2 o2 m cap2 : Nat) (vs : List Nat) (w : World) (ha : 0 < n → a = some ⟨b, o, none⟩) (hl : us.length = n) (hel : ∀ (j u : Nat), us[j]? = some u → w.cell? ⟨b, o + j, none⟩ = some (.int .u8 (u : Nat))) (hub : ∀ u ∈ us, u ≤ 255) (hml : n ≤ maxLen) (ha2 : 0 < m → a2 = some ⟨b2, o2, none⟩) (hl2 : vs.length = m) (hel2 : ∀ (j u : Nat), vs[j]? = some u → w.cell? ⟨b2, o2 + j, none⟩ = some (.int .u8 (u : Nat))) (hub2 : ∀ u ∈ vs, u ≤ 255) (hml2 : m ≤ maxLen) :
    Calls Tryz.prog 4 #[.slice a n cap, .slice a2 m cap2] w fun e w' => e = .returned (.bool true) ∧ Below w.heap.size w w' := by
  have hK := hidP (known_any w)
  have haH := hidP ha
  have hlH := hidP hl
  have helH := hidP hel
  have hubH := hidP hub
  have ha2H := hidP ha2
  have hl2H := hidP hl2
  have hel2H := hidP hel2
  have hub2H := hidP hub2
  have hnm : (n : Int) ≤ 9223372036854775807 := by unfold maxLen at hml; omega
  have hmm : (m : Int) ≤ 9223372036854775807 := by unfold maxLen at hml2; omega
  clear ha hl hel hub hml ha2 hl2 hel2 hub2 hml2
  by_cases h50 : 50 < n
  · have h50I : (50 : Int) < (n : Int) := by omega
    go_enter Tryz.func4, Tryz.ntmps4
    go_wp2_with fail
    refine hK.out.mono ?_
    rintro e V ⟨rfl, hbV⟩
    have fin := hidP hbV
    clear hbV hK
    go_wp2_with fail
    go_ret
    exact ⟨rfl, fin.out⟩
  · have h50I : ¬ (50 : Int) < (n : Int) := by omega
    have h50D : decide ((50 : Int) < (n : Int)) = false := by simpa using h50I
    by_cases h60 : 60 < m
    · have h60I : (60 : Int) < (m : Int) := by omega
      go_enter Tryz.func4, Tryz.ntmps4
      go_wp2_with fail
      refine hK.out.mono ?_
      rintro e V ⟨rfl, hbV⟩
      have fin := hidP hbV
      clear hbV hK
      go_wp2_with fail
      go_ret
      exact ⟨rfl, fin.out⟩
    · have h60I : ¬ (60 : Int) < (m : Int) := by omega
      have h60D : decide ((60 : Int) < (m : Int)) = false := by simpa using h60I
      go_enter Tryz.func4, Tryz.ntmps4
      go_wp2_with fail
      refine hK.out.mono ?_
      rintro e V ⟨rfl, hbV⟩
      have hNw := hidP (newk hbV)
      clear hbV hK
      obtain ⟨lb, hlb⟩ : ∃ lb, V.heap.size = lb := ⟨_, rfl⟩
      rw [hlb] at hNw
      unfold lp at hNw
      go_wp2_with fail
      refine hNw.out.mono ?_
      rintro e V0 ⟨rfl, h0⟩
      have h0H := hidP h0
      clear h0 hNw hlb
      go_wp2_with fail
      go_loopw [7] (fun i wr => ∃ k : Nat, k ≤ n ∧ i = .int .i64 k ∧ Hid (Lk w lb [] 0 (Tn us k) wr)) (fun i _ => n - (intOf i).toNat)
      case atStart => exact ⟨0, Nat.zero_le _, rfl, h0H⟩
      case round =>
        clear h0H
        obtain ⟨k, hk, rfl, hA⟩ := hrel
        by_cases hlt : k < n
        · obtain ⟨u, hu⟩ : ∃ u, us[k]? = some u := ⟨_, List.getElem?_eq_getElem (by have := hlH.out; omega)⟩
          have hub := hubH.out u (List.mem_of_getElem? hu)
          obtain rfl := haH.out (by omega)
          have hc : wr.drew.cell? ⟨b, o + k, none⟩ = some (.int .u8 u) := bcell hA.out.w (cell_lt (helH.out k u hu)) (helH.out k u hu)
          have hts := (Tn_all us k (by omega) (by have := hlH.out; omega))
          have hS : Hid (Calls Tryz.prog 13 #[.pointer (some ⟨lb, 0, none⟩), .string (nmsB.extract k (k + 1)), .string ⟨#[116]⟩, .int .i64 u] wr.drew fun e V => e = .returned (.tuple #[]) ∧ Lk w lb [] 0 (Tn us (k + 1)) V) := by
            have e : Tn us (k + 1) = setT (kn k) (u : Nat) (Tn us k) := by
              show setT (kn k) (us.getD k 0 : Nat) (Tn us k) = _
              rw [List.getD_eq_getElem?_getD, hu]; rfl
            rw [e]
            have hlen : (Tn us k).length = k := by
              have := hts.2.2.length_eq
              rw [List.length_map, List.length_map, List.length_take] at this
              have := hlH.out
              omega
            exact setk (hA.out.below ((Below.refl _ _).drew)) (kn k) u (by omega) (by omega)
          unfold nmsB at hS
          have hkI : (k : Int) < 50 := by omega
          have huI : (u : Int) ≤ 255 := by omega
          have hw1 : IntKind.i64.wrap ((k : Int) + 1) = (k : Int) + 1 := by rw [IntKind.wrap_i64]; omega
          have hw2 : IntKind.i64.wrap (u : Int) = (u : Int) := by rw [IntKind.wrap_i64]; omega
          clear hA hu hub hts
          go_wp2_with fail
          refine Zs.region (S := fun W => W.cell? ⟨b, o + k, none⟩ = some (.int .u8 u)) 11 (by kernel_rfl) ?_
          refine Zs.pure (i := 0) (oi := ⟨some 33, _, _, _, _, _⟩) (v := .pointer (some ⟨lb, 0, none⟩)) rfl (by kernel_rfl) (by kernel_rfl) (by kernel_rfl) (by decide) (fun _ _ _ h => h) (Or.inl ⟨by rfl, ?hy0⟩) hc ?_
          case hy0 => (intro w hSw; (try dsimp only at hSw); go_simp; try with_reducible rfl)
          simp only [Act.put, List.setIfInBounds_toArray, List.set_cons_zero, List.set_cons_succ]
          refine Zs.pure (i := 1) (oi := ⟨some 34, _, _, _, _, _⟩) (v := .string { data := #[97, 98, 99, 100, 101, 102, 103, 104, 105, 106, 107, 108, 109, 110, 111, 112, 113, 114, 115, 116, 117, 118, 119, 120, 121, 122, 65, 66, 67, 68, 69, 70, 71, 72, 73, 74, 75, 76, 77, 78, 79, 80, 81, 82, 83, 84, 85, 86, 87, 88, 89, 90] }) rfl (by kernel_rfl) (by kernel_rfl) (by kernel_rfl) (by decide) (fun _ _ _ h => h) (Or.inl ⟨by rfl, ?hy1⟩) hc ?_
          case hy1 => (intro w hSw; (try dsimp only at hSw); go_simp; try with_reducible rfl)
          simp only [Act.put, List.setIfInBounds_toArray, List.set_cons_zero, List.set_cons_succ]
          refine Zs.pure (i := 2) (oi := ⟨some 35, _, _, _, _, _⟩) (v := .int .i64 k) rfl (by kernel_rfl) (by kernel_rfl) (by kernel_rfl) (by decide) (fun _ _ _ h => h) (Or.inl ⟨by rfl, ?hy2⟩) hc ?_
          case hy2 => (intro w hSw; (try dsimp only at hSw); go_simp; try with_reducible rfl)
          simp only [Act.put, List.setIfInBounds_toArray, List.set_cons_zero, List.set_cons_succ]
          refine Zs.pure (i := 3) (oi := ⟨some 36, _, _, _, _, _⟩) (v := .int .i64 k) rfl (by kernel_rfl) (by kernel_rfl) (by kernel_rfl) (by decide) (fun _ _ _ h => h) (Or.inl ⟨by rfl, ?hy3⟩) hc ?_
          case hy3 => (intro w hSw; (try dsimp only at hSw); go_simp; try with_reducible rfl)
          simp only [Act.put, List.setIfInBounds_toArray, List.set_cons_zero, List.set_cons_succ]
          refine Zs.pure (i := 4) (oi := ⟨some 37, _, _, _, _, _⟩) (v := .int .i64 ((k : Int) + 1)) rfl (by kernel_rfl) (by kernel_rfl) (by kernel_rfl) (by decide) (fun _ _ _ h => h) (Or.inl ⟨by rfl, ?hy4⟩) hc ?_
          case hy4 => (intro w hSw; (try dsimp only at hSw); go_simp; try with_reducible rfl)
          simp only [Act.put, List.setIfInBounds_toArray, List.set_cons_zero, List.set_cons_succ]
          refine Zs.pure (i := 5) (oi := ⟨some 38, _, _, _, _, _⟩) (v := .string ((⟨#[97, 98, 99, 100, 101, 102, 103, 104, 105, 106, 107, 108, 109, 110, 111, 112, 113, 114, 115, 116, 117, 118, 119, 120, 121, 122, 65, 66, 67, 68, 69, 70, 71, 72, 73, 74, 75, 76, 77, 78, 79, 80, 81, 82, 83, 84, 85, 86, 87, 88, 89, 90]⟩ : ByteArray).extract k (k + 1))) rfl (by kernel_rfl) (by kernel_rfl) (by kernel_rfl) (by decide) (fun _ _ _ h => h) (Or.inl ⟨by rfl, ?hy5⟩) hc ?_
          case hy5 => (intro w hSw; (try dsimp only at hSw); go_simp; rw [if_pos ⟨by omega, by omega⟩, if_pos (by omega)])
          simp only [Act.put, List.setIfInBounds_toArray, List.set_cons_zero, List.set_cons_succ]
          refine Zs.pure (i := 6) (oi := ⟨some 39, _, _, _, _, _⟩) (v := .slice (some ⟨b, o, none⟩) n cap) rfl (by kernel_rfl) (by kernel_rfl) (by kernel_rfl) (by decide) (fun _ _ _ h => h) (Or.inl ⟨by rfl, ?hy6⟩) hc ?_
          case hy6 => (intro w hSw; (try dsimp only at hSw); go_simp; try with_reducible rfl)
          simp only [Act.put, List.setIfInBounds_toArray, List.set_cons_zero, List.set_cons_succ]
          refine Zs.pure (i := 7) (oi := ⟨some 40, _, _, _, _, _⟩) (v := .int .i64 k) rfl (by kernel_rfl) (by kernel_rfl) (by kernel_rfl) (by decide) (fun _ _ _ h => h) (Or.inl ⟨by rfl, ?hy7⟩) hc ?_
          case hy7 => (intro w hSw; (try dsimp only at hSw); go_simp; try with_reducible rfl)
          simp only [Act.put, List.setIfInBounds_toArray, List.set_cons_zero, List.set_cons_succ]
          refine Zs.pure (i := 8) (oi := ⟨some 41, _, _, _, _, _⟩) (v := .pointer (some ⟨b, o + k, none⟩)) rfl (by kernel_rfl) (by kernel_rfl) (by kernel_rfl) (by decide) (fun _ _ _ h => h) (Or.inl ⟨by rfl, ?hy8⟩) hc ?_
          case hy8 => (intro w hSw; (try dsimp only at hSw); go_simp; try with_reducible rfl)
          simp only [Act.put, List.setIfInBounds_toArray, List.set_cons_zero, List.set_cons_succ]
          refine Zs.takeC (i := 9) (oi := ⟨some 42, _, _, _, _, _⟩) (v := .int .u8 u) 10 rfl (by kernel_rfl) (by kernel_rfl) (by kernel_rfl) (by decide) (by kernel_rfl) (by kernel_rfl) (by kernel_rfl) (fun _ _ _ h => h) (Or.inl ⟨by rfl, ?hy9⟩) hc ?_
          case hy9 => (intro w hSw; (try dsimp only at hSw); go_simp; try with_reducible rfl)
          simp only [Act.put, List.setIfInBounds_toArray, List.set_cons_zero, List.set_cons_succ]
          refine Zs.pure (i := 10) (oi := ⟨some 43, _, _, _, _, _⟩) (v := .int .i64 u) rfl (by kernel_rfl) (by kernel_rfl) (by kernel_rfl) (by decide) (fun _ _ _ h => h) (Or.inl ⟨by rfl, ?hy10⟩) hc ?_
          case hy10 => (intro w hSw; (try dsimp only at hSw); go_simp; try with_reducible rfl)
          simp only [Act.put, List.setIfInBounds_toArray, List.set_cons_zero, List.set_cons_succ]
          refine Zs.one (i := 11) (oi := ⟨some 44, _, _, _, _, _⟩) (by kernel_rfl) rfl (fun K hK => ?_)
          go_simp
          refine hS.out.mono ?_
          rintro e V1 ⟨rfl, hA1⟩
          have hA1H := hidP hA1
          clear hA1 hS
          go_wp2_with fail
          refine hK.out _ _ (fun q => absurd q (by decide)) ?_
          clear hK K
          try simp only [Act.put, List.setIfInBounds_toArray, List.set_cons_zero, List.set_cons_succ]
          refine Zs.done (by kernel_rfl) ?_ _
          clear hc
          go_wp2_with fail
          go_roundw
          case rel => exact ⟨k + 1, by omega, by go_num, hA1H⟩
          case measure => simp [intOf]; omega
        · have hkn : k = n := by omega
          have hall := Tn_all us k (by omega) (by have := hlH.out; omega)
          obtain ⟨TS, hTS⟩ : ∃ TS, Tn us k = TS := ⟨_, rfl⟩
          rw [hTS] at hA hall
          have hTsH : Hid (Ts TS) := hall.1
          have hpm : Hid ((TS.map (·.t)).Perm (us.map fun u : Nat => (u : Int))) := by
            have := hall.2.2
            rw [List.take_of_length_le (by have := hlH.out; omega)] at this
            exact this
          have hpos : Hid (∀ d ∈ TS, 0 ≤ d.t) := fun d hd => by
            have := hpm.out.mem_iff.1 (List.mem_map_of_mem (f := fun d : Du => d.t) hd)
            obtain ⟨u, _, e⟩ := List.mem_map.1 this
            omega
          have hcnt : Hid (∀ now, (TS.filter fun d => decide (d.t ≤ now)).length = cntD us now) := fun now => cnt_perm hpm.out now
          have hs0 : Hid (Lk w lb [] 0 (TS.filter fun d => !decide (d.t ≤ -1)) wr) := by
            have e : TS.filter (fun d => !decide (d.t ≤ -1)) = TS := List.filter_eq_self.2 fun d hd => by
              have := hpos.out d hd
              have : ¬ d.t ≤ -1 := by omega
              simp [this]
            rw [e]; exact hA.out
          have hc0 : cntD us (-1) = 0 := by
            rw [← hcnt.out, List.length_eq_zero_iff, List.filter_eq_nil_iff]
            intro d hd
            have := hpos.out d hd
            simp; omega
          clear hA hall hTS
          go_wp2_with fail
          go_loopw [8, 9, 10, 11] (fun s8 s9 s10 s11 wr => ∃ (i : Nat) (now prev : Int), i ≤ m + 1 ∧ s11 = .int .i64 i ∧ s8 = .int .i64 now ∧ s10 = .int .i64 (-1) ∧ s9 = .int .i64 (cntD us prev : Nat) ∧ 0 ≤ now ∧ now ≤ 31 * (i : Int) ∧ prev ≤ now ∧ Hid (Lk w lb [] 0 (TS.filter fun d => !decide (d.t ≤ prev)) wr)) (fun _ _ _ s11 _ => m + 1 - (intOf s11).toNat)
          case atStart => exact ⟨0, 0, -1, Nat.zero_le _, rfl, rfl, rfl, by rw [hc0]; rfl, Int.le_refl _, by omega, by omega, hs0⟩
          case round =>
            clear hs0 hc0 hlt hkn
            obtain ⟨i, now, prev, hi, rfl, rfl, rfl, rfl, n0, n1, n2, hB⟩ := hrel
            by_cases him : i ≤ m
            · have nI : now ≤ 2000 := by omega
              obtain ⟨xs, hxs⟩ : ∃ xs, ((TS.filter fun d => !decide (d.t ≤ prev)).filter fun d => decide (d.t ≤ now)) = xs := ⟨_, rfl⟩
              obtain ⟨len, hlen⟩ : ∃ len, xs.length = len := ⟨_, rfl⟩
              obtain ⟨c0, hc0⟩ : ∃ c0, cntD us prev = c0 := ⟨_, rfl⟩
              obtain ⟨cn, hcn⟩ : ∃ cn, cntD us now = cn := ⟨_, rfl⟩
              have hsum : c0 + len = cn := by
                rw [← hc0, ← hcn, ← hlen, ← hxs, ← hcnt.out, ← hcnt.out]
                exact cnt_split TS n2
              have hcnn : cn ≤ 50 := by
                rw [← hcn]
                unfold cntD
                have := List.length_filter_le (fun u : Nat => decide ((u : Int) ≤ now)) us
                have := hlH.out
                omega
              have hso : Hid (So keyD xs) := by show So _ _; rw [← hxs]; exact (hTsH.out.so.filter _).filter _
              have hps : Hid (∀ d ∈ xs, 0 ≤ d.t ∧ d.t ≤ now) := fun d hd => by
                rw [← hxs] at hd
                obtain ⟨h1, h2⟩ := List.mem_filter.1 hd
                exact ⟨hpos.out d (List.mem_filter.1 h1).1, by simpa using h2⟩
              have hE : Hid (Calls Tryz.prog 16 #[.pointer (some ⟨lb, 0, none⟩), .int .i64 now] wr fun e V => ∃ p c, e = .returned (.slice p len c) ∧ Md.SV V (.slice p len c) xs ∧ Lk w lb [] 0 (TS.filter fun d => !decide (d.t ≤ now)) V) := by
                refine (elapk hB.out now).mono ?_
                rintro e V ⟨p, c, rfl, h1, h2⟩
                rw [hxs, hlen] at h1
                rw [tr_next TS n2] at h2
                exact ⟨p, c, by rw [hxs, hlen], h1, h2⟩
              have hlenH := hidP hlen
              have hcnH := hidP hcn
              have hsumI : (c0 : Int) + (len : Int) = (cn : Int) := by omega
              have hsumH := hidP hsumI
              have hlI : (len : Int) ≤ 50 := by omega
              have hcI : (c0 : Int) ≤ 50 := by omega
              have himI : (i : Int) ≤ (m : Int) := by omega
              have hmI : (m : Int) ≤ 60 := by omega
              rw [hc0]
              clear hB hxs hlen hc0 hcn hsum hcnn hsumI
              go_wp2_with fail
              refine hE.out.mono ?_
              rintro e V1 ⟨p, c, rfl, sv, hB1⟩
              have svH := hidP sv
              have hB1H := hidP hB1
              clear hE sv hB1
              go_wp2_with fail
              go_loop [9, 10, 13] (fun s9 s10 s13 => ∃ q : Nat, q ≤ len ∧ s13 = .int .i64 q ∧ s9 = .int .i64 ((c0 : Int) + (q : Int)) ∧ s10 = .int .i64 (lastT xs q)) (fun _ _ s13 => len - (intOf s13).toNat)
              case atStart => exact ⟨0, Nat.zero_le _, rfl, by simp, rfl⟩
              case round =>
                obtain ⟨q, hq, rfl, rfl, rfl⟩ := hrel
                by_cases hql : q < len
                · obtain ⟨x, hx⟩ : ∃ x, xs[q]? = some x := ⟨_, List.getElem?_eq_getElem (by have := hlenH.out; omega)⟩
                  rcases svH.out with ⟨_, e⟩ | ⟨g, og, c', e, rs⟩
                  · have := hlenH.out
                    rw [e, List.length_nil] at this; omega
                  · injection e with e1 e2 e3
                    subst e1
                    obtain ⟨_, _, r3⟩ := rs.ra.at hx
                    have hqc : q < c := by have := rs.le; have := hlenH.out; omega
                    have hxp := hps.out x (List.mem_of_getElem? hx)
                    have hll := last_le hso.out (fun d hd => (hps.out d hd).1) hx
                    obtain ⟨lq, hlq⟩ : ∃ lq, lastT xs q = lq := ⟨_, rfl⟩
                    have hnx : Hid (lastT xs (q + 1) = x.t) := by
                      show (match xs[q]? with | some d => d.t | none => -1) = x.t
                      rw [hx]
                    rw [hlq] at hll ⊢
                    obtain ⟨xt, hxt⟩ : ∃ xt, x.t = xt := ⟨_, rfl⟩
                    rw [hxt] at r3 hxp hll hnx
                    have t1 : ¬ now < xt := by omega
                    have t2 : decide (now < xt) = false := by simpa using t1
                    have t3 : ¬ xt < lq := by omega
                    have t4 : decide (xt < lq) = false := by simpa using t3
                    clear rs hx e2 e3 hxt hlq hxp hll
                    go_wp2_with fail
                    go_round
                    case rel => exact ⟨q + 1, by omega, by go_num, by first | rfl | (congr 1; omega) | (simp; omega), by rw [hnx.out]⟩
                    case measure => simp [intOf]; omega
                · have hql2 : q = len := by omega
                  have hce : (c0 : Int) + (q : Int) = (cn : Int) := by have := hsumH.out; omega
                  rw [hce]
                  have hcntH : Hid (cntD us now = cn) := hcnH.out
                  obtain ⟨lq, hlq⟩ : ∃ lq, lastT xs q = lq := ⟨_, rfl⟩
                  rw [hlq]
                  clear hlq hce
                  go_wp2_with fail
                  go_loop [14, 15] (fun s14 s15 => ∃ j : Nat, j ≤ n ∧ s15 = .int .i64 j ∧ s14 = .int .i64 (cntD (us.take j) now : Nat)) (fun _ s15 => n - (intOf s15).toNat)
                  case atStart => exact ⟨0, Nat.zero_le _, rfl, rfl⟩
                  case round =>
                    obtain ⟨j, hj, rfl, rfl⟩ := hrel
                    by_cases hjn : j < n
                    · obtain ⟨u, hu⟩ : ∃ u, us[j]? = some u := ⟨_, List.getElem?_eq_getElem (by have := hlH.out; omega)⟩
                      have hub := hubH.out u (List.mem_of_getElem? hu)
                      obtain rfl := haH.out (by omega)
                      have hc : V1.cell? ⟨b, o + j, none⟩ = some (.int .u8 u) := bcell hB1H.out.w (cell_lt (helH.out j u hu)) (helH.out j u hu)
                      have hct := hidP (cntD_take us now hu)
                      have hw2 : IntKind.i64.wrap (u : Int) = (u : Int) := by rw [IntKind.wrap_i64]; omega
                      have hcb : Hid (cntD (us.take j) now ≤ 50) := by
                        show _ ≤ _
                        unfold cntD
                        have := List.length_filter_le (fun u : Nat => decide ((u : Int) ≤ now)) (us.take j)
                        rw [List.length_take] at this
                        omega
                      obtain ⟨cj, hcj⟩ : ∃ cj, cntD (us.take j) now = cj := ⟨_, rfl⟩
                      rw [hcj] at hct hcb ⊢
                      have hcjI : (cj : Int) ≤ 50 := by have := hcb.out; omega
                      have huI : (u : Int) ≤ 255 := by omega
                      clear hcj hub hu hcb
                      by_cases hun : (u : Int) ≤ now
                      · go_wp2_with fail
                        go_round
                        case rel => exact ⟨j + 1, by omega, by go_num, by rw [hct.out, if_pos hun]; go_num⟩
                        case measure => simp [intOf]; omega
                      · have hunf : decide ((u : Int) ≤ now) = false := by simpa using hun
                        have hun2 : now < (u : Int) := by omega
                        go_wp2_with fail
                        go_round
                        case rel => exact ⟨j + 1, by omega, by go_num, by rw [hct.out, if_neg hun]; go_num⟩
                        case measure => simp [intOf]; omega
                    · have hfull : cntD (us.take j) now = cn := by rw [List.take_of_length_le (by have := hlH.out; omega)]; exact hcntH.out
                      rw [hfull]
                      have hgt : ∀ d ∈ (TS.filter fun d => !decide (d.t ≤ now)), now < d.t := fun d hd => by
                        have := (List.mem_filter.1 hd).2
                        simp at this; exact this
                      obtain ⟨r, hr⟩ : ∃ r, (soon (TS.filter fun d => !decide (d.t ≤ now))).getD 9223372036854775807 = r := ⟨_, rfl⟩
                      have hrn : now < r := by rw [← hr]; exact soon_gt hgt (by omega)
                      have hSo : Hid (Calls Tryz.prog 21 #[.pointer (some ⟨lb, 0, none⟩)] V1 fun e V => e = .returned (.int .i64 r) ∧ Lk w lb [] 0 (TS.filter fun d => !decide (d.t ≤ now)) V) := by rw [← hr]; exact soonk hB1H.out
                      have hr1 : ¬ r ≤ now := by omega
                      have hr2 : decide (r ≤ now) = false := by simpa using hr1
                      clear hfull hgt hr
                      by_cases him2 : i < m
                      · obtain ⟨v, hv⟩ : ∃ v, vs[i]? = some v := ⟨_, List.getElem?_eq_getElem (by have := hl2H.out; omega)⟩
                        have hvb := hub2H.out v (List.mem_of_getElem? hv)
                        obtain rfl := ha2H.out (by omega)
                        obtain ⟨rr, hrr⟩ : ∃ rr : Int, (v : Int) % 32 = rr := ⟨_, rfl⟩
                        have hrr1 : (v : Int).tmod 32 = rr := by rw [Int.tmod_eq_emod_of_nonneg (by omega)]; exact hrr
                        have hrr2 : 0 ≤ rr := by omega
                        have hrr3 : rr ≤ 31 := by omega
                        have hrr4 : IntKind.u8.wrap rr = rr := by rw [IntKind.wrap_u8]; omega
                        have hrr5 : IntKind.i64.wrap rr = rr := by rw [IntKind.wrap_i64]; omega
                        by_cases hl0 : len = 0
                        · have hl0I : ¬ (0 : Int) < (len : Int) := by omega
                          have hl0D : decide ((0 : Int) < (len : Int)) = false := by simpa using hl0I
                          have hcv : V1.cell? ⟨b2, o2 + i, none⟩ = some (.int .u8 v) := bcell hB1H.out.w (cell_lt (hel2H.out i v hv)) (hel2H.out i v hv)
                          clear hv hrr hSo
                          go_wp2_with fail
                          go_roundw
                          case rel => exact ⟨i + 1, now + rr, now, by omega, by go_num, rfl, rfl, by rw [hcntH.out], by omega, by omega, by omega, hB1H⟩
                          case measure => simp [intOf]; omega
                        · have hl0I : (0 : Int) < (len : Int) := by omega
                          have hcel : Hid (∀ V, Lk w lb [] 0 (TS.filter fun d => !decide (d.t ≤ now)) V → V.cell? ⟨b2, o2 + i, none⟩ = some (.int .u8 v)) := fun V h => bcell h.w (cell_lt (hel2H.out i v hv)) (hel2H.out i v hv)
                          clear hv hrr
                          go_wp2_with fail
                          refine hSo.out.mono ?_
                          rintro e V2 ⟨rfl, hB2⟩
                          have hB2H := hidP hB2
                          have hcv := hcel.out V2 hB2
                          clear hB2 hSo hcel
                          go_wp2_with fail
                          go_roundw
                          case rel => exact ⟨i + 1, now + rr, now, by omega, by go_num, rfl, rfl, by rw [hcntH.out], by omega, by omega, by omega, hB2H⟩
                          case measure => simp [intOf]; omega
                      · have him3 : i = m := by omega
                        by_cases hl0 : len = 0
                        · have hl0I : ¬ (0 : Int) < (len : Int) := by omega
                          have hl0D : decide ((0 : Int) < (len : Int)) = false := by simpa using hl0I
                          clear hSo
                          go_wp2_with fail
                          go_roundw
                          case rel => exact ⟨i + 1, now, now, by omega, by go_num, rfl, rfl, by rw [hcntH.out], by omega, by omega, by omega, hB1H⟩
                          case measure => simp [intOf]; omega
                        · have hl0I : (0 : Int) < (len : Int) := by omega
                          go_wp2_with fail
                          refine hSo.out.mono ?_
                          rintro e V2 ⟨rfl, hB2⟩
                          have hB2H := hidP hB2
                          clear hB2 hSo
                          go_wp2_with fail
                          go_roundw
                          case rel => exact ⟨i + 1, now, now, by omega, by go_num, rfl, rfl, by rw [hcntH.out], by omega, by omega, by omega, hB2H⟩
                          case measure => simp [intOf]; omega
            · have fin := hidP hB.out.w
              obtain ⟨c0, hc0⟩ : ∃ c0, cntD us prev = c0 := ⟨_, rfl⟩
              rw [hc0]
              clear hB hc0
              go_wp2_with fail
              go_ret
              exact ⟨rfl, fin.out⟩
end Go.Proofs.YtjcdjkfnmobhkaaGreat
