/- The contract of the reference's Print. -/
import Derived.Test.YtiinhfbfciccnaaDoorM1B
import Derived.Test.YtiinhfbfciccnaaDoorYG
namespace Go.Proofs.YtiinhfbfciccnaaDoor
open Go.RowKit Go.Shelf Lin
def secR (l : List St) (s : ByteArray) : L := [91] ++ s.data.toList ++ [93, 10] ++ (l.filter fun x => decide (x.s = s)).flatMap oneL
def rprt (l : List St) : L := (secs l).flatMap (secR l)
theorem fsec_take {l : List St} {k : Nat} {x : St} {s : ByteArray} (h : l[k]? = some x) : ((l.take (k + 1)).filter fun x => decide (x.s = s)).flatMap oneL = ((l.take k).filter fun x => decide (x.s = s)).flatMap oneL ++ (if x.s = s then oneL x else []) := by
  rw [take_snocS h, List.filter_append, List.flatMap_append]
  by_cases e : x.s = s
  · rw [if_pos e]; simp [e]
  · rw [if_neg e]; simp [e]
theorem tsecR_take {l : List St} {z : List ByteArray} {i : Nat} {s : ByteArray} (h : z[i]? = some s) : (z.take (i + 1)).flatMap (secR l) = (z.take i).flatMap (secR l) ++ secR l s := by
  rw [List.take_add_one, h, List.flatMap_append]; simp
theorem sz91 : (⟨#[91]⟩ : ByteArray).size = 1 := rfl
theorem sz93 : (⟨#[93, 10]⟩ : ByteArray).size = 2 := rfl
theorem sz61 : (⟨#[61]⟩ : ByteArray).size = 1 := rfl
theorem sz10 : (⟨#[10]⟩ : ByteArray).size = 1 := rfl
theorem addS_mem (P : ByteArray → Prop) : ∀ (l : List St) (acc : List ByteArray), (∀ x ∈ l, P x.s) → (∀ s ∈ acc, P s) → ∀ s ∈ l.foldl addS acc, P s
  | [], _, _, h => h
  | x :: r, acc, h1, h2 => by
    rw [List.foldl_cons]
    refine addS_mem P r _ (fun y hy => h1 y (List.mem_cons_of_mem _ hy)) (fun s hs => ?_)
    unfold addS at hs
    split at hs
    · exact h2 s hs
    · rcases List.mem_append.1 hs with hs | hs
      · exact h2 s hs
      · simp at hs; subst hs; exact h1 _ List.mem_cons_self
theorem addS_fold_len : ∀ (l : List St) (acc : List ByteArray), (l.foldl addS acc).length ≤ acc.length + l.length
  | [], _ => by simp
  | x :: r, acc => by
    rw [List.foldl_cons]
    have h1 := addS_fold_len r (addS acc x)
    have h2 := addS_len acc x
    simp only [List.length_cons]; omega
set_option maxRecDepth 100000 in
set_option maxHeartbeats 8000000 in
theorem rprint_any (v : Value) (l : List St) (w : World) (hs : SlIs (fun _ => False) w v l) (hl : l.length ≤ 1000) (hz : ∀ x ∈ l, x.s.size ≤ 1000 ∧ x.k.size ≤ 1000 ∧ x.v.size ≤ 1000) :
    Calls Tryd.prog 15 #[.agg #[v]] w fun e w' => (∃ S : ByteArray, e = .returned (.string S) ∧ S.data.toList = rprt l) ∧ Below w.heap.size w w' := by
  have hzs : ∀ s ∈ secs l, s.size ≤ 1000 := addS_mem (fun s => s.size ≤ 1000) l [] (fun x hx => (hz x hx).1) (fun s hs => by simp at hs)
  have hsl : (secs l).length ≤ 1000 := by have := addS_fold_len l []; unfold secs; simp only [List.length_nil] at this; omega
  obtain ⟨a, c, rfl, hs1⟩ := id hs
  obtain ⟨W0, hW0⟩ : ∃ W0, w.alloc (.cells #[.slice a l.length c] 25) = W0 := ⟨_, rfl⟩
  have m0 : Mv (fun _ => False) w W0 := by rw [← hW0]; exact Mv.alloc _ _ _
  have k0 : W0.cell? ⟨w.heap.size, 0, none⟩ = some (.slice a l.length c) := by rw [← hW0]; exact cell_at rfl rfl
  have hsec := rsec_any (.slice a l.length c) l W0 (hs.mv m0 (Gr.refl _ _)) (by omega)
  obtain ⟨n, hn⟩ : ∃ n, l.length = n := ⟨_, rfl⟩
  obtain ⟨z, hzz⟩ : ∃ z, secs l = z := ⟨_, rfl⟩
  rw [hzz] at hsec hzs hsl
  rw [hn] at hs1 hl k0 hW0 hsec ⊢
  have hsecH : Hid (Calls Tryd.prog 22 #[.agg #[.slice a n c]] W0 fun e w' => ∃ v', e = .returned v' ∧ w'.ownsRow W0.heap.size 9 1 v' z.length (z.map Value.string) ∧ Below W0.heap.size W0 w') := hsec
  have hN : Hid (l.length = n) := hn
  have hzzH : Hid (secs l = z) := hzz
  have hzH : Hid (∀ x ∈ l, x.s.size ≤ 1000 ∧ x.k.size ≤ 1000 ∧ x.v.size ≤ 1000) := hz
  have hzsH : Hid (∀ s ∈ z, s.size ≤ 1000) := hzs
  have hsH : Hid (0 < n → ∃ g o, a = some ⟨g, o, none⟩ ∧ ¬ False ∧ StAt w g o l) := hs1
  clear hn hs hs1 hzz hz hzs hsec
  go_enter Tryd.func15, Tryd.ntmps15
  go_wp2_with (rw [hW0])
  clear hW0
  refine hsecH.out.mono ?_
  rintro e w1 ⟨v1, rfl, ho1, hb1⟩
  dsimp only
  obtain ⟨az, gz, cz, rfl, hz1, hz2⟩ := own_strs ho1
  obtain ⟨q, hq⟩ : ∃ q, z.length = q := ⟨_, rfl⟩
  rw [hq] at hz1 hsl ⊢
  have hqH : Hid (z.length = q) := hq
  have hz1H : Hid (0 < q → az = some ⟨gz, 0, none⟩ ∧ W0.heap.size ≤ gz) := hz1
  have hz2H : Hid (∀ (j : Nat) s, z[j]? = some s → w1.cell? ⟨gz, j, none⟩ = some (.string s)) := hz2
  have m1 : Mv (fun _ => False) W0 w1 := Mv.below hb1
  have k1 := m1.cell (fun h => h) k0
  clear ho1 hq hz1 hz2 k0 hsecH hb1
  go_wp2_with fail
  go_loopw [3, 5] (fun v3 v5 wx => ∃ (i : Nat) (S : ByteArray), i ≤ q ∧ v5 = .int .i64 i ∧ v3 = .string S ∧ S.size ≤ i * 3000000 ∧ Hid (S.data.toList = (z.take i).flatMap (secR l)) ∧ Mv (fun _ => False) w1 wx) (fun _ v5 _ => q - (intOf v5).toNat)
  case atStart => exact ⟨0, ⟨#[]⟩, by omega, rfl, rfl, by decide, rfl, Mv.refl _ _⟩
  case round =>
    obtain ⟨i, S, hi, rfl, rfl, hSz, hS, hm⟩ := hrel
    by_cases hlt : i < q
    · obtain ⟨rfl, -⟩ := hz1H.out (by omega)
      obtain ⟨s, hsi⟩ : ∃ s, z[i]? = some s := ⟨_, List.getElem?_eq_getElem (by rw [hqH.out]; exact hlt)⟩
      have r0 := hz2H.out i s hsi
      have r1 := hm.cell (fun h => h) r0
      have hs1 := hzsH.out s (List.mem_of_getElem? hsi)
      have hts := tsecR_take (l := l) hsi
      have htsH : Hid ((z.take (i + 1)).flatMap (secR l) = (z.take i).flatMap (secR l) ++ secR l s) := hts
      have hiI : (i : Int) < (q : Int) := by omega
      have hSs : S.size ≤ 3000000000 := by omega
      clear hts hsi
      go_wp2_with fail
      go_loopw [3, 6] (fun v3 v6 wx => ∃ (k : Nat) (R : ByteArray), k ≤ n ∧ v6 = .int .i64 k ∧ v3 = .string R ∧ R.size ≤ i * 3000000 + 1003 + k * 2002 ∧ Hid (R.data.toList = (z.take i).flatMap (secR l) ++ ([91] ++ s.data.toList ++ [93, 10] ++ ((l.take k).filter fun x => decide (x.s = s)).flatMap oneL)) ∧ Mv (fun _ => False) w1 wx) (fun _ v6 _ => n - (intOf v6).toNat)
      case atStart => exact ⟨0, _, by omega, rfl, rfl, by simp only [ByteArray.size_append, sz91, sz93]; omega, by show _ = _; simp [hS.out], hm⟩
      case round =>
        clear hm r1
        obtain ⟨k, R, hk, rfl, rfl, hRz, hR, hm⟩ := hrel
        have r1 := hm.cell (fun h => h) r0
        have y1 := hm.cell (fun h => h) k1
        by_cases hlk : k < n
        · obtain ⟨g, o, rfl, -, hst⟩ := hsH.out (by omega)
          obtain ⟨x, hx⟩ : ∃ x, l[k]? = some x := ⟨_, List.getElem?_eq_getElem (by rw [hN.out]; exact hlk)⟩
          obtain ⟨c0, c1, c2, c3⟩ := (((hst k x hx).mv m0 (fun h => h)).mv m1 (fun h => h)).mv hm (fun h => h)
          obtain ⟨z1, z2, z3⟩ := hzH.out x (List.mem_of_getElem? hx)
          have hft := fsec_take (s := s) hx
          have hkI : (k : Int) < (n : Int) := by omega
          have hRs : R.size ≤ 4000000000 := by omega
          have mD := fun y => hidI6 (hm.trans' (mvDrewN (E := fun _ => False) wr y))
          have hcmp : (x.s.toList == s.toList) = decide (x.s = s) := str_eq' _ _
          clear hst hx hm
          by_cases e1 : x.s = s
          · rw [if_pos e1] at hft
            rw [decide_eq_true e1] at hcmp
            have hftH := hidI6 hft
            clear hft e1
            go_upto_region 10 with fail
            go_quiet (fail)
            go_upto_region 11 with fail
            go_quiet (fail)
            go_wp2_with fail
            exact ⟨⟨k + 1, R ++ x.k ++ ⟨#[61]⟩ ++ x.v ++ ⟨#[10]⟩, by omega, by go_num, rfl, by simp only [ByteArray.size_append, sz61, sz10]; omega, hidI6 (by rw [hftH.out]; simp [hR.out, oneL]), (mD _).out⟩, by simp [intOf]; omega⟩
          · rw [if_neg e1, List.append_nil] at hft
            rw [decide_eq_false e1] at hcmp
            have hftH := hidI6 hft
            clear hft e1
            go_upto_region 10 with fail
            go_quiet (fail)
            go_wp2_with fail
            exact ⟨⟨k + 1, R, by omega, by go_num, rfl, by omega, hidI6 (by rw [hftH.out]; exact hR.out), (mD _).out⟩, by simp [intOf]; omega⟩
        · obtain rfl : k = n := by omega
          have hkI : ¬ ((k : Int) < (k : Int)) := by omega
          have hnx : Hid (R.data.toList = (z.take (i + 1)).flatMap (secR l)) := by show _ = _; rw [hR.out, htsH.out, show l.take k = l from List.take_of_length_le (by rw [hN.out]; omega)]; rfl
          have hmH := hidI6 hm
          clear hm hR
          go_wp2_with fail
          exact ⟨⟨i + 1, R, by omega, by go_num, rfl, by omega, hnx, hmH.out⟩, by simp [intOf]; omega⟩
    · obtain rfl : i = q := by omega
      have hiI : ¬ ((i : Int) < (i : Int)) := by omega
      have hfin : S.data.toList = rprt l := by rw [hS.out, List.take_of_length_le (by rw [hqH.out]; omega), rprt, hzzH.out]
      have hbf : Below w.heap.size w wr := (m0.toBelow (Nat.le_refl _) (fun _ _ h => h)).trans ((m1.trans' hm).toBelow m0.size (fun _ _ h => h))
      have hfH := hidI6 hfin
      clear hS hm hfin
      go_wp2_with fail
      go_ret
      exact ⟨⟨S, rfl, hfH.out⟩, hbf⟩
end Go.Proofs.YtiinhfbfciccnaaDoor
