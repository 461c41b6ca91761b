/- Contracts of package kern's Fork, Exit, Die, Kill. -/
import Derived.Test.YtgienkdfodjoiaaGreatK5
namespace Go.Proofs.YtgienkdfodjoiaaGreat
open Go.RowKit Go.Shelf
def forkK (K : Kst) (k : Int) : SpK :=
  if (Pc.fkP K.room K.last K.l k).e = 0 then
    (if (Cg.hm K.S.l k).isSome = true then ⟨(Pc.fkP K.room K.last K.l k).n, 0, (Pc.fkP K.room K.last K.l k).last, (Pc.fkP K.room K.last K.l k).l, Cg.putL K.S.l (Pc.fkP K.room K.last K.l k).n (Cg.ofN K.S.l k), Cg.putN K.S.l K.S.ns (Pc.fkP K.room K.last K.l k).n (Cg.ofN K.S.l k)⟩
     else ⟨(Pc.fkP K.room K.last K.l k).n, 0, (Pc.fkP K.room K.last K.l k).last, (Pc.fkP K.room K.last K.l k).l, K.S.l, K.S.ns⟩)
  else ⟨0, (Pc.fkP K.room K.last K.l k).e, (Pc.fkP K.room K.last K.l k).last, (Pc.fkP K.room K.last K.l k).l, K.S.l, K.S.ns⟩
theorem fk_n (room last : Int) (l : Pc.Ps) (k : Int) : (Pc.fkP room last l k).n ≤ last + 1 ∨ (Pc.fkP room last l k).n = 0 := by
  unfold Pc.fkP
  split
  · exact sp_n _ _ _ _ _ _
  · exact .inr rfl
theorem ofN_sz {w : World} {K : Kst} (h : Ks w K) (k : Int) : (Cg.ofN K.S.l k).size ≤ 1000 := by
  unfold Cg.ofN
  cases e : Cg.hm K.S.l k with
  | none => exact Nat.zero_le _
  | some g => exact h.g.wf.sz g (Cg.hm_mem e)
set_option maxRecDepth 100000 in
set_option maxHeartbeats 4000000 in
theorem fork_any {K : Kst} {w : World} (h : Ks w K) (hw : Kw K) (k : Int) (h0 : -9223372036854775808 ≤ k) (h1 : k ≤ 9223372036854775807) :
    Calls Tryz.prog 15 #[kp K, .int .i64 k] w fun e w' => e = .returned (.tuple #[.int .i64 (forkK K k).n, .int .i64 (forkK K k).e]) ∧ ∃ K', Kg K w K' w' 2 ∧ Kv K K' (forkK K k).last (forkK K k).l (forkK K k).gl (forkK K k).ns := by
  have hla := hw.la
  have hla1 := hw.pw.la
  have hS : Calls Tryz.prog 64 #[.pointer (some ⟨K.S.bt, 0, none⟩), .int .i64 k] w fun e w' => e = .returned (.tuple #[.int .i64 (Pc.fkP K.room K.last K.l k).n, .int .i64 (Pc.fkP K.room K.last K.l k).e]) ∧ Kg K w { K with last := (Pc.fkP K.room K.last K.l k).last, l := (Pc.fkP K.room K.last K.l k).l } w' 0 :=
    (Pc.fork_any K.S.bt K.bm K.room K.last K.l k w h.t h0 h1 (fun q hq => (hw.pw.rng q hq).2) (by have := hw.pw.len'; omega) (by omega) (by omega)).mono (fun e w' q => ⟨q.1, h.proc q.2.1 q.2.2⟩)
  have hPn := fk_n K.room K.last K.l k
  have hR : forkK K k = forkK K k := rfl
  conv at hR => rhs; unfold forkK
  obtain ⟨P, hP⟩ : ∃ P, Pc.fkP K.room K.last K.l k = P := ⟨_, rfl⟩
  rw [hP] at hS hR hPn
  obtain ⟨R, hRR⟩ : ∃ R, forkK K k = R := ⟨_, rfl⟩
  rw [hRR] at hR ⊢
  clear hRR hP
  obtain ⟨pn, pe, plast, pl⟩ := P
  simp only at hS hR hPn
  have hof : Hid (∀ (K2 : Kst) (W : World), Ks W K2 → K2.S.l = K.S.l → K2.S.bt = K.S.bt → Calls Tryz.prog 49 #[.pointer (some ⟨K.S.bt, 3, none⟩), .int .i64 k] W fun e w' => e = .returned (.tuple #[.string (Cg.ofN K.S.l k), .bool (Cg.hm K.S.l k).isSome]) ∧ Below W.heap.size W w') := fun K2 W hk e1 e2 => by
    have := Cg.of_any (K2.S.at W) k W hk.g h0 h1
    rw [show (K2.S.at W).bt = K.S.bt from e2, show (K2.S.at W).l = K.S.l from e1] at this
    exact this
  have hsz := hidK (ofN_sz h k)
  obtain ⟨nm, hnm⟩ : ∃ nm, Cg.ofN K.S.l k = nm := ⟨_, rfl⟩
  rw [hnm] at hof hsz hR
  have hgc := hidK hw.gc
  have hPnH : Hid (pn ≤ 9223372036854775807) := by show _ ≤ _; omega
  clear hw hla hla1 h hPn hnm
  unfold kp
  by_cases hpe : pe = 0
  · subst hpe
    rw [if_pos rfl] at hR
    cases hhm : (Cg.hm K.S.l k).isSome with
    | true =>
      rw [hhm] at hof hR
      rw [if_pos rfl] at hR
      subst hR
      clear hhm
      go_enter Tryz.func15, Tryz.ntmps15
      go_wp2_with fail
      refine hS.mono ?_
      rintro e w1 ⟨rfl, k1⟩
      have hO := hof.out _ w1 k1.k rfl rfl
      have k1H := hidK k1
      clear hS k1
      go_wp2_with fail
      refine hO.mono ?_
      rintro e w2 ⟨rfl, b2⟩
      have k2 := k1H.out.trans (Kg.below k1H.out.k b2)
      have hP2 := Cg.put_any _ pn nm w2 k2.k.g hsz.out hPnH.out (by have := hgc.out; show K.S.c ≤ _; omega)
      change Calls Tryz.prog 60 #[.pointer (some ⟨K.S.bt, 3, none⟩), .int .i64 pn, .string nm] w2 _ at hP2
      have k2H := hidK k2
      clear hO b2 k2
      go_wp2_with fail
      refine hP2.mono ?_
      rintro e w3 ⟨rfl, S', g3, l3, n3⟩
      have fin := hidK (k2H.out.trans (k2H.out.k.group g3))
      have l3H := hidK l3
      have n3H := hidK n3
      clear hP2 g3 l3 n3
      go_wp2_with fail
      go_ret2
      exact ⟨rfl, _, fin.out.mono (by omega), rfl, rfl, rfl, rfl, rfl, l3H.out, n3H.out⟩
    | false =>
      rw [hhm] at hof hR
      rw [if_neg (by simp)] at hR
      subst hR
      clear hhm
      go_enter Tryz.func15, Tryz.ntmps15
      go_wp2_with fail
      refine hS.mono ?_
      rintro e w1 ⟨rfl, k1⟩
      have hO := hof.out _ w1 k1.k rfl rfl
      have k1H := hidK k1
      clear hS k1
      go_wp2_with fail
      refine hO.mono ?_
      rintro e w2 ⟨rfl, b2⟩
      have fin := hidK (k1H.out.trans (Kg.below k1H.out.k b2))
      clear hO b2
      go_wp2_with fail
      go_ret2
      exact ⟨rfl, _, fin.out.mono (by omega), rfl, rfl, rfl, rfl, rfl, rfl, rfl⟩
  · rw [if_neg hpe] at hR
    subst hR
    go_enter Tryz.func15, Tryz.ntmps15
    go_wp2_with fail
    refine hS.mono ?_
    rintro e w1 ⟨rfl, k1⟩
    have fin := hidK k1
    clear hS k1
    go_wp2_with fail
    go_ret2
    exact ⟨rfl, _, fin.out.mono (by omega), rfl, rfl, rfl, rfl, rfl, rfl, rfl⟩
def exG (K : Kst) (k : Int) : Cg.Gl := if Pc.exE K.l k = 0 then Cg.gonL K.S.l k else K.S.l
def exN (K : Kst) (k : Int) : List ByteArray := if Pc.exE K.l k = 0 then Cg.gonN K.S.l K.S.ns k else K.S.ns
set_option maxRecDepth 100000 in
set_option maxHeartbeats 4000000 in
theorem exit_any {K : Kst} {w : World} (h : Ks w K) (hw : Kw K) (k s : Int) (h0 : -9223372036854775808 ≤ k) (h1 : k ≤ 9223372036854775807) :
    Calls Tryz.prog 17 #[kp K, .int .i64 k, .int .i64 s] w fun e w' => e = .returned (.int .i64 (Pc.exE K.l k)) ∧ ∃ K', Kg K w K' w' 1 ∧ Kv K K' K.last (Pc.exL K.l k s) (exG K k) (exN K k) := by
  have hS : Calls Tryz.prog 67 #[.pointer (some ⟨K.S.bt, 0, none⟩), .int .i64 k, .int .i64 s] w fun e w' => e = .returned (.int .i64 (Pc.exE K.l k)) ∧ Kg K w { K with last := K.last, l := Pc.exL K.l k s } w' 0 :=
    (Pc.exit_any K.S.bt K.bm K.room K.last K.l k s w h.t h0 h1 hw.pw.srt (by have := hw.pw.len'; omega) hw.pid).mono (fun e w' q => ⟨q.1, h.proc q.2.1 q.2.2⟩)
  have hg1 : exG K k = (if Pc.exE K.l k = 0 then Cg.gonL K.S.l k else K.S.l) := rfl
  have hg2 : exN K k = (if Pc.exE K.l k = 0 then Cg.gonN K.S.l K.S.ns k else K.S.ns) := rfl
  obtain ⟨x, hx⟩ : ∃ x, Pc.exE K.l k = x := ⟨_, rfl⟩
  obtain ⟨L, hL⟩ : ∃ L, Pc.exL K.l k s = L := ⟨_, rfl⟩
  rw [hx, hL] at hS
  rw [hx] at hg1 hg2
  rw [hx, hL, hg1, hg2]
  have hgc := hidK hw.gc
  clear hx hL hg1 hg2 hw h
  unfold kp
  by_cases hx0 : x = 0
  · subst hx0
    rw [if_pos rfl, if_pos rfl]
    go_enter Tryz.func17, Tryz.ntmps17
    go_wp2_with fail
    refine hS.mono ?_
    rintro e w1 ⟨rfl, k1⟩
    have hG := Cg.gone_any _ k w1 k1.k.g h0 h1 (by have := hgc.out; show K.S.c ≤ _; omega)
    change Calls Tryz.prog 68 #[.pointer (some ⟨K.S.bt, 3, none⟩), .int .i64 k] w1 _ at hG
    have k1H := hidK k1
    clear hS k1
    go_wp2_with fail
    refine hG.mono ?_
    rintro e w2 ⟨rfl, S', g3, l3, n3⟩
    have fin := hidK (k1H.out.trans (k1H.out.k.group g3))
    have l3H := hidK l3
    have n3H := hidK n3
    clear hG g3 l3 n3
    go_wp2_with fail
    go_ret
    exact ⟨rfl, _, fin.out.mono (by omega), rfl, rfl, rfl, rfl, rfl, l3H.out, n3H.out⟩
  · rw [if_neg hx0, if_neg hx0]
    go_enter Tryz.func17, Tryz.ntmps17
    go_wp2_with fail
    refine hS.mono ?_
    rintro e w1 ⟨rfl, k1⟩
    have fin := hidK k1
    clear hS k1
    go_wp2_with fail
    go_ret
    exact ⟨rfl, _, fin.out.mono (by omega), rfl, rfl, rfl, rfl, rfl, rfl, rfl⟩
set_option maxRecDepth 100000 in
set_option maxHeartbeats 4000000 in
theorem kill_any {K : Kst} {w : World} (h : Ks w K) (hw : Kw K) (k s : Int) (h0 : -9223372036854775808 ≤ k) (h1 : k ≤ 9223372036854775807) :
    Calls Tryz.prog 21 #[kp K, .int .i64 k, .int .i64 s] w fun e w' => e = .returned (.int .i64 (Pc.klE K.l k s)) ∧ Kg K w { K with last := K.last, l := Pc.klL K.l k s } w' 0 := by
  have hS : Calls Tryz.prog 72 #[.pointer (some ⟨K.S.bt, 0, none⟩), .int .i64 k, .int .i64 s] w fun e w' => e = .returned (.int .i64 (Pc.klE K.l k s)) ∧ Kg K w { K with last := K.last, l := Pc.klL K.l k s } w' 0 :=
    (Pc.kill_any K.S.bt K.bm K.room K.last K.l k s w h.t h0 h1 hw.pw.srt (by have := hw.pw.len'; omega)).mono (fun e w' q => ⟨q.1, h.proc q.2.1 q.2.2⟩)
  clear hw h
  unfold kp
  go_enter Tryz.func21, Tryz.ntmps21
  go_wp2_with fail
  refine hS.mono ?_
  rintro e w1 ⟨rfl, k1⟩
  have fin := hidK k1
  clear hS k1
  go_wp2_with fail
  go_ret
  exact ⟨rfl, fin.out⟩
def killd (l : Pc.Ps) (k : Int) : Bool := ((Pc.lk l k).getD Pc.zPr).kill
def dieE (K : Kst) (k : Int) : Int := if killd K.l k = true then Pc.exE K.l k else 80
def dieL (K : Kst) (k : Int) : Pc.Ps := if killd K.l k = true then Pc.exL K.l k (-9) else K.l
def dieG (K : Kst) (k : Int) : Cg.Gl := if killd K.l k = true then exG K k else K.S.l
def dieN (K : Kst) (k : Int) : List ByteArray := if killd K.l k = true then exN K k else K.S.ns
set_option maxRecDepth 100000 in
set_option maxHeartbeats 4000000 in
theorem die_any {K : Kst} {w : World} (h : Ks w K) (hw : Kw K) (k : Int) (h0 : -9223372036854775808 ≤ k) (h1 : k ≤ 9223372036854775807) :
    Calls Tryz.prog 19 #[kp K, .int .i64 k] w fun e w' => e = .returned (.int .i64 (dieE K k)) ∧ ∃ K', Kg K w K' w' 1 ∧ Kv K K' K.last (dieL K k) (dieG K k) (dieN K k) := by
  have hS := Pc.sig_any K.S.bt K.bm K.room K.last K.l k w h.t h0 h1
  change Calls Tryz.prog 50 #[.pointer (some ⟨K.S.bt, 0, none⟩), .int .i64 k] w (fun e w' => e = .returned (.tuple #[.bool ((Pc.lk K.l k).getD Pc.zPr).term, .bool (killd K.l k)]) ∧ Below w.heap.size w w') at hS
  obtain ⟨tm, htm⟩ : ∃ tm, ((Pc.lk K.l k).getD Pc.zPr).term = tm := ⟨_, rfl⟩
  rw [htm] at hS
  clear htm
  unfold dieE dieL dieG dieN
  cases hk : killd K.l k with
  | false =>
    rw [hk] at hS
    rw [if_neg (by simp), if_neg (by simp), if_neg (by simp), if_neg (by simp)]
    have hhH := hidK h
    clear hw h hk
    unfold kp
    go_enter Tryz.func19, Tryz.ntmps19
    go_wp2_with fail
    refine hS.mono ?_
    rintro e w1 ⟨rfl, b1⟩
    have fin := hidK (Kg.below hhH.out b1)
    clear hS b1
    go_wp2_with fail
    go_ret
    exact ⟨rfl, K, fin.out.mono (by omega), rfl, rfl, rfl, rfl, rfl, rfl, rfl⟩
  | true =>
    rw [hk] at hS
    rw [if_pos rfl, if_pos rfl, if_pos rfl, if_pos rfl]
    have hE := hidK (fun W (hW : Ks W K) => exit_any hW hw k (-9) h0 h1)
    have hhH := hidK h
    clear hw h hk
    unfold kp at hE ⊢
    go_enter Tryz.func19, Tryz.ntmps19
    go_wp2_with fail
    refine hS.mono ?_
    rintro e w1 ⟨rfl, b1⟩
    have hE1 := hE.out w1 (hhH.out.below b1)
    have b1H := hidK b1
    clear hS b1
    go_wp2_with fail
    refine hE1.mono ?_
    rintro e w2 ⟨rfl, K', k2, v2⟩
    have fin := hidK ((Kg.below hhH.out b1H.out).trans k2)
    have v2H := hidK v2
    clear hE1 k2 v2
    go_wp2_with fail
    go_ret
    exact ⟨rfl, K', fin.out.mono (by omega), v2H.out⟩
end Go.Proofs.YtgienkdfodjoiaaGreat
