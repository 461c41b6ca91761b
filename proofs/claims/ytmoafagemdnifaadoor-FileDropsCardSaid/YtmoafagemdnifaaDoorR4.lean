/- The contract of the reference's line. -/
import Derived.Test.YtmoafagemdnifaaDoorR3
import Derived.Test.YtmoafagemdnifaaDoorA5
import Derived.Deep.RegionWith
namespace Go.Proofs.YtmoafagemdnifaaDoor
open Go.RowKit Lin
/-- What the reference tells of a line. -/
def RlP (o : Option Kv) (n : Nat) (w : World) (e : Ending) (w' : World) : Prop := match o with
  | some p => e = .returned (.tuple #[.agg #[.int .i64 p.1, .string ⟨p.2.1.toArray⟩, .string ⟨p.2.2.toArray⟩, .int .i64 n], .bool true]) ∧ Below w.heap.size w w'
  | none => (∃ k a b d, e = .returned (.tuple #[.agg #[.int .i64 k, .string a, .string b, .int .i64 d], .bool false])) ∧ Below w.heap.size w w'
theorem RlP.yes {o : Option Kv} {n : Nat} {w w' : World} {e : Ending} {k : Nat} {A B : ByteArray} (h : o = some (k, A.data.toList, B.data.toList)) (he : e = .returned (.tuple #[.agg #[.int .i64 k, .string A, .string B, .int .i64 n], .bool true])) (hb : Below w.heap.size w w') : RlP o n w e w' := by
  rw [h]
  refine ⟨?_, hb⟩
  rw [he]
theorem RlP.no {o : Option Kv} {n : Nat} {w w' : World} {e : Ending} {k d : Int} {A B : ByteArray} (h : o = none) (he : e = .returned (.tuple #[.agg #[.int .i64 k, .string A, .string B, .int .i64 d], .bool false])) (hb : Below w.heap.size w w') : RlP o n w e w' := by
  rw [h]
  exact ⟨⟨k, A, B, d, he⟩, hb⟩
theorem brk_no {t : L} (h : t.length < 2 ∨ t.head? ≠ some 91 ∨ t.getLast? ≠ some 93) : brk t = false := by
  unfold brk
  rcases h with h | h | h
  · rw [show decide (2 ≤ t.length) = false from decide_eq_false (by omega)]; rfl
  · rw [show (t.head? == some 91) = false by simpa using h]; simp
  · rw [show (t.getLast? == some 93) = false by simpa using h]; simp
theorem last_get (t : L) (n : Nat) (h : t.length = n + 1) : t.getLast? = t[n]? := by rw [List.getLast?_eq_getElem?, h]; rfl
set_option maxRecDepth 100000 in
set_option maxHeartbeats 4000000 in
theorem rline_sec (s T : ByteArray) (n N : Nat) (w : World) (hs : s.size ≤ 1000000) (hT : trim s.data.toList = T.data.toList) (hN : T.size = N + 1) (h1 : 1 ≤ N) (hN2 : N ≤ 1000000) (g0 : T.data.toList[0]? = some 91) (gN : T.data.toList[N]? = some 93) :
    Calls Tryd.prog 39 #[.string s, .int .i64 n] w (RlP (prs s.data.toList) n w) := by
  have htr := rtrim_any s
  rw [hT, Lib.mk_data] at htr
  have htr' : Hid (∀ w, Calls Tryd.prog 38 #[.string s] w fun e w' => e = .returned (.string T) ∧ w' = w) := fun w => htr w hs
  have hbk : brk (trim s.data.toList) = true := by
    unfold brk
    rw [hT, size_list, List.head?_eq_getElem?, g0, last_get _ N (by rw [size_list]; exact hN), gN]
    simp; omega
  obtain ⟨K, hK⟩ : ∃ K, T.extract 1 N = K := ⟨_, rfl⟩
  have hKl : K.data.toList = (T.data.toList.drop 1).take (N - 1) := by rw [← hK, Lib.extract_data]
  have hP := prs_brk hbk
  rw [hT, size_list, hN, show N + 1 - 2 = N - 1 by omega, ← hKl] at hP
  have hPH : Hid (prs s.data.toList = if made sc K.data.toList then some (1, K.data.toList, []) else none) := hP
  have hKz : K.size ≤ 1000000 := by
    rw [← size_list, hKl, List.length_take]; omega
  have hse := fun w => rsection_any K w hKz
  have hl0 : (0 : Int) < (T.size : Int) := by omega
  have h0lt : 0 < T.size := by omega
  have hNlt : N < T.size := by omega
  have c0 : T[0]'h0lt = 91 := by
    have := get_list T 0 h0lt
    rw [g0] at this; exact (Option.some.inj this).symm
  have cN : T[N]'hNlt = 93 := by
    have := get_list T N hNlt
    rw [gN] at this; exact (Option.some.inj this).symm
  have hNI : (T.size : Int) = (N : Int) + 1 := by omega
  have hN1 : (1 : Int) ≤ (N : Int) := by omega
  have hNle : Hid ((N : Int) ≤ (T.size : Int)) := by show (N : Int) ≤ _; omega
  clear htr hT hbk hKl hP g0 gN hKz hN
  cases hm : made sc K.data.toList
  · rw [hm] at hse
    have hse' : Hid (∀ w, Calls Tryd.prog 60 #[.string K] w fun e w' => e = .returned (.bool false) ∧ w' = w) := hse
    have hR : Hid (prs s.data.toList = none) := by show _ = _; rw [hPH.out, hm]; rfl
    clear hse hm hPH
    go_enter Tryd.func39, Tryd.ntmps39
    go_wp2_with fail
    refine (htr'.out _).mono ?_
    rintro e w1 ⟨rfl, rfl⟩
    go_wp2_with fail
    clear hNI
    have hNle' := hNle.out
    have hkw : IntKind.i64.wrap (N : Int) = (N : Int) := wrap_small _ (by omega) (by omega)
    have hb9 : Below w.heap.size w (w.alloc (.cells #[.int .i64 1, .string K, .string ⟨#[]⟩, .int .i64 n] 60)) := (Below.refl _ _).alloc (Nat.le_refl _) _
    go_region_with (go_at_call 60; refine (hse'.out _).mono ?_; rintro e w' ⟨rfl, rfl⟩)
    all_goals
      go_wp2_with fail
      refine bodyPost_ret (v := .tuple #[.agg #[.int .i64 1, .string K, .string ⟨#[]⟩, .int .i64 n], .bool false]) (by simp [results, Tryd.results39, go_sem]) rfl ?_
      exact RlP.no hR.out rfl (below_drewN hb9 1)
  · rw [hm] at hse
    have hse' : Hid (∀ w, Calls Tryd.prog 60 #[.string K] w fun e w' => e = .returned (.bool true) ∧ w' = w) := hse
    have hR : Hid (prs s.data.toList = some (1, K.data.toList, (⟨#[]⟩ : ByteArray).data.toList)) := by show _ = _; rw [hPH.out, hm]; rfl
    clear hse hm hPH
    go_enter Tryd.func39, Tryd.ntmps39
    go_wp2_with fail
    refine (htr'.out _).mono ?_
    rintro e w1 ⟨rfl, rfl⟩
    go_wp2_with fail
    clear hNI
    have hNle' := hNle.out
    have hkw : IntKind.i64.wrap (N : Int) = (N : Int) := wrap_small _ (by omega) (by omega)
    have hb9 : Below w.heap.size w (w.alloc (.cells #[.int .i64 1, .string K, .string ⟨#[]⟩, .int .i64 n] 60)) := (Below.refl _ _).alloc (Nat.le_refl _) _
    go_region_with (go_at_call 60; refine (hse'.out _).mono ?_; rintro e w' ⟨rfl, rfl⟩)
    all_goals
      go_wp2_with fail
      refine bodyPost_ret (v := .tuple #[.agg #[.int .i64 1, .string K, .string ⟨#[]⟩, .int .i64 n], .bool true]) (by simp [results, Tryd.results39, go_sem]) rfl ?_
      exact RlP.yes hR.out rfl (below_drewN hb9 1)
end Go.Proofs.YtmoafagemdnifaaDoor
