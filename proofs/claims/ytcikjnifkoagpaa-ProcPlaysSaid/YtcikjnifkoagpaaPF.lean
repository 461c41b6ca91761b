/- package proc's All and children as rows. -/
import Derived.Test.YtcikjnifkoagpaaPE
import Derived.Test.YtcikjnifkoagpaaIt3
namespace Go.Proofs.Ytcikjnifkoagpaa
open Go.RowKit Go.Shelf
attribute [local go_sem] Oper.semAt_some
def encP (p : Pr) : Array Value := #[prV p]
/-- What a row of processes wants of what is left: the table has the numbers of l, and what is left stands in it. -/
def Lf (bt bm : Nat) (l : Ps) (s : Ps) (W : World) : Prop := ∃ room last l', Tb W bt bm room last l' ∧ Srt l' ∧ l'.map (·.pid) = l.map (·.pid) ∧ ∀ p ∈ s, p.pid ≠ 1 → lk l' p.pid = some p
theorem pid_eq {l l' : Ps} (h : l'.map (·.pid) = l.map (·.pid)) {k : Nat} {x : Pr} (hx : l[k]? = some x) : ∃ y, l'[k]? = some y ∧ y.pid = x.pid := by
  have h1 : (l'.map (·.pid))[k]? = some x.pid := by rw [h]; simp [hx]
  rw [List.getElem?_map] at h1
  cases hy : l'[k]? with
  | none => rw [hy] at h1; simp at h1
  | some y => rw [hy] at h1; exact ⟨y, rfl, by simpa using h1⟩
theorem drop_at {l : Ps} {k : Nat} {x : Pr} (h : l[k]? = some x) : l.drop k = x :: l.drop (k + 1) := by
  obtain ⟨h1, h2⟩ := List.getElem?_eq_some_iff.1 h
  rw [List.drop_eq_getElem_cons h1, h2]
set_option maxRecDepth 100000 in
set_option maxHeartbeats 4000000 in
theorem all_row (bt bm pt : Nat) (l : Ps) (E : Nat → Prop) (W : World) (hlen : l.length ≤ 150) (hpid : ∀ p ∈ l, 2 ≤ p.pid ∧ p.pid ≤ 9223372036854775807) (ct : W.cell? ⟨pt, 0, none⟩ = some (.pointer (some ⟨bt, 0, none⟩))) (et : ¬ E pt) :
    RowS Try.prog 34 #[.pointer (some ⟨pt, 0, none⟩)] encP (fun _ => false) (Lf bt bm l) (one :: l) E W := by
  intro l1 J Jx E1 V m g hJ hJx hL hsk hY h0
  have ctV := m.cell et ct
  have etV : ¬ E1 pt := g.free (cell_lt ct) et
  obtain ⟨n, hn⟩ : ∃ n, l.length = n := ⟨_, rfl⟩
  obtain ⟨fn, tmps, assign, body, hy, hR⟩ := hY one l E1 V rfl h0
  have hN := hidP hn
  have hlenH : Hid (n ≤ 150) := by show _ ≤ _; omega
  have hpidH := hidP hpid
  have hJH := hidP hJ
  have hLH := hidP hL
  have hYH := hidP hY
  simp only [encP, prV, one] at hy
  clear hsk h0 hJ hJx hL hY hn hlen hpid m g ct et
  refine (callsIn_wide (n := 5)).1 ?_
  refine callsIn_of_wp Try.func34 rfl trivial ?_ rfl
  simp only [Try.ntmps34, List.size_toArray, List.length_cons, List.length_nil, Nat.reduceAdd, Nat.reduceSub, Array.replicate_succ, Array.replicate_zero, List.push_toArray, List.append_toArray, List.nil_append, List.cons_append]
  gi_wp2_with fail
  refine (wide_round' hR).mono ?_
  rintro e w1 ⟨m1, (⟨rfl, E3, g3, hj3⟩ | ⟨rfl, E3, g3, hj3⟩)⟩
  · obtain ⟨room, last, l', hT, hs', hpl, hat⟩ := hLH.out _ _ _ hj3
    have ct1 := m1.cell etV ctV
    have c2 := hT.c2
    obtain ⟨nn, hnn, ho⟩ := hT.mp
    have hlen' : l'.length = n := by have := congrArg List.length hpl; simpa [hN.out] using this
    have hso := Try.slices_Sorted bm nn (Dm l') heldElem w1 ho (by rw [size_Dm, hlen']; unfold maxLen; have := hlenH.out; omega) (by rw [size_Dm, hlen']; have := hlenH.out; omega)
    have hsoH := hidP hso
    have hjH := hidP hj3
    have m1H := hidP m1
    have g3H := hidP g3
    have hs'H := hidP hs'
    have hplH := hidP hpl
    have hlen'H := hidP hlen'
    have hRH := hidP hR
    clear hso ho hT hat hj3 m1 g3 hs' hpl hlen' hy hR
    gi_wp2_with fail
    refine ⟨trivial, (callsIn_wide.2 (Try.maps_Keys _ _)).mono ?_⟩
    rintro e w2 ⟨rfl, rfl⟩
    gi_wp2_with fail
    refine ⟨trivial, (callsIn_wide.2 hsoH.out).mono ?_⟩
    rintro e w3 ⟨vk, ss, rfl, hp, hrow, hnil, hb3⟩
    obtain ⟨a, gk, cap, rfl, hak, hck⟩ := row_keys hs'H.out hp hrow hnil
    rw [hlen'H.out] at hak ⊢
    have hs13 : w1.heap.size + 1 ≤ w3.heap.size := by have := hb3.size; simpa using this
    have m13 : ∀ F, Mv F w1 w3 := fun F => (Mv.alloc _ _ _).trans' (Mv.below hb3)
    have hj0 : Hid (J (l.drop 0) E3 w3) := hJH.out.keep _ _ _ _ hjH.out (m13 _)
    have M3 : Hid (Mv E1 V w3) := m1H.out.trans' (m13 _)
    have hE3 : Hid (∀ k, E3 k → k < w1.heap.size) := fun k hk => hJH.out.low _ _ _ hjH.out k hk
    have hgk0 : Hid (0 < n → ¬ E3 gk) := fun h0 e => by have := hE3.out _ e; have := (hak h0).2; simp at this; omega
    have hck3 : Hid (∀ (k : Nat) (x : Pr), l[k]? = some x → w3.cell? ⟨gk, k, none⟩ = some (.int .i64 x.pid)) := fun k x hx => by
      obtain ⟨y, hy, hyx⟩ := pid_eq hplH.out hx
      rw [← hyx]; exact hck k y hy
    have hakH := hidP hak
    clear hp hrow hnil hb3 hck hak hsoH ct1 c2 m13 hs'H hplH hlen'H hjH hRH
    gi_wp2_with fail
    gi_loopw [16] (fun i wr => ∃ (k : Nat) (E2 : Nat → Prop), k ≤ n ∧ i = .int .i64 k ∧ Hid (J (l.drop k) E2 wr) ∧ Hid (Mv E1 V wr) ∧ Hid (Gr E1 V E2) ∧ Hid (0 < n → ¬ E2 gk) ∧ Hid (∀ (k : Nat) (x : Pr), l[k]? = some x → wr.cell? ⟨gk, k, none⟩ = some (.int .i64 x.pid))) (fun i _ => n - (intOf i).toNat)
    case atStart => exact ⟨0, E3, by omega, rfl, hj0, M3, g3H, hgk0, hck3⟩
    case round =>
      obtain ⟨k, E2, hk, rfl, hj, hm, hg, hgk, hcs⟩ := hrel
      by_cases hlt : k < n
      · obtain ⟨x, hx⟩ : ∃ x, l[k]? = some x := ⟨_, List.getElem?_eq_getElem (by rw [hN.out]; exact hlt)⟩
        obtain ⟨rfl, hgb⟩ := hakH.out (by omega)
        have hcell := hcs.out k x hx
        have ctr := hm.out.cell etV ctV
        have hj2 := hj.out
        rw [drop_at hx] at hj2
        obtain ⟨room, last, l', hTr, hs', hpl, hat⟩ := hLH.out _ _ _ hj2
        have c2 := hTr.c2
        have hpx := hpidH.out x (List.mem_of_getElem? hx)
        have hlk := hTr.look1 (k := x.pid) (by omega) hpx.2
        rw [hat x (by simp) (by omega)] at hlk
        simp only [Option.getD_some] at hlk
        have hfd := field_pr x wr
        obtain ⟨fn, tmps, assign, body, hy, hR⟩ := hYH.out x _ E2 wr rfl hj2
        simp only [encP] at hy
        have hgl : Hid (gk < wr.heap.size) := cell_lt hcell
        have hxm : Hid (k < l.length) := by show _ < _; rw [hN.out]; exact hlt
        obtain ⟨p0, p1, p2, p3, p4, p5, p6, p7⟩ := x
        simp only [prV] at hfd hy
        simp only [psV] at hlk hfd
        simp only at hcell
        have hkI : (k : Int) < (n : Int) := by omega
        have hn150 : (n : Int) ≤ 150 := by have := hlenH.out; omega
        have hRH := hidP hR
        clear hj2 hTr hs' hpl hat hpx hx hgb hR
        gi_wp2_with fail
        refine (wide_round' hRH.out).mono ?_
        rintro e w4 ⟨m4, (⟨rfl, E4, g4, hj4⟩ | ⟨rfl, E4, g4, hj4⟩)⟩
        · have m4H := hidP m4
          have g4H := hidP g4
          have hj4H := hidP hj4
          clear m4 g4 hj4 hcell hlk hfd hy ctr c2
          gi_wp2_with fail
          refine ⟨⟨k + 1, E4, by omega, by go_num, hj4H, hm.out.trans hg.out m4H.out, hg.out.trans hm.out.size g4H.out, fun h0 => g4H.out.free hgl.out (hgk.out h0), fun j x hx => m4H.out.cell (hgk.out (by omega)) (hcs.out j x hx)⟩, by simp [intOf]; omega⟩
        · have m4H := hidP m4
          have g4H := hidP g4
          have hj4H := hidP hj4
          clear m4 g4 hj4 hcell hlk hfd hy ctr c2
          gi_wp2_with fail
          refine bodyPost_ret (results_none rfl _ _ _) rfl ?_
          exact ⟨⟨_, rfl⟩, hm.out.trans hg.out m4H.out, .inr ⟨E4, hg.out.trans hm.out.size g4H.out, hj4H.out⟩⟩
      · obtain rfl : k = n := by omega
        have hjn := hj.out
        rw [List.drop_of_length_le (by rw [hN.out]; omega)] at hjn
        have hjnH := hidP hjn
        clear hjn
        gi_wp2_with fail
        go_end0
        exact ⟨⟨_, rfl⟩, hm.out, .inl ⟨E2, hg.out, hjnH.out⟩⟩
  · have m1H := hidP m1
    have g3H := hidP g3
    have hjH := hidP hj3
    clear m1 g3 hj3 hy hR
    gi_wp2_with fail
    refine bodyPost_ret (results_none rfl _ _ _) rfl ?_
    exact ⟨⟨_, rfl⟩, m1H.out, .inr ⟨E3, g3H.out, hjH.out⟩⟩
end Go.Proofs.Ytcikjnifkoagpaa
