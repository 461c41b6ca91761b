/- Contracts of package kern's Spawn, Fork, Exit, Die, Kill. -/
import Derived.Test.YtgienkdfodjoiaaGreatK4
namespace Go.Proofs.YtgienkdfodjoiaaGreat
open Go.RowKit Go.Shelf
/-- A kernel as it may be. -/
structure Kw (K : Kst) : Prop where
  pw : Pc.Wf K.room K.last K.l
  la : K.last ≤ 900000
  gs : Cg.srtG K.S.l
  gl : K.S.l.length ≤ 1000
  gc : K.S.c ≤ 700000
/-- K' is K with what is said. -/
structure Kv (K K' : Kst) (last : Int) (l : Pc.Ps) (gl : Cg.Gl) (ns : List ByteArray) : Prop where
  room : K'.room = K.room
  mono : K'.mono = K.mono
  wall : K'.wall = K.wall
  last : K'.last = last
  l : K'.l = l
  gl : K'.S.l = gl
  ns : K'.S.ns = ns
theorem Kw.pid {K : Kst} (h : Kw K) : ∀ p ∈ K.l, 2 ≤ p.pid ∧ p.pid ≤ 9223372036854775807 := fun p hp => by
  have := h.pw.rng p hp; have := h.la; omega
structure SpK where
  n : Int
  e : Int
  last : Int
  l : Pc.Ps
  gl : Cg.Gl
  ns : List ByteArray
def spawnK (K : Kst) (g c : ByteArray) : SpK :=
  if (Cg.fnd K.S.l g).isSome = true then
    (if (Pc.spP K.room K.last K.l 1 g c).e = 0 then ⟨(Pc.spP K.room K.last K.l 1 g c).n, 0, (Pc.spP K.room K.last K.l 1 g c).last, (Pc.spP K.room K.last K.l 1 g c).l, Cg.putL K.S.l (Pc.spP K.room K.last K.l 1 g c).n g, Cg.putN K.S.l K.S.ns (Pc.spP K.room K.last K.l 1 g c).n g⟩
     else ⟨0, (Pc.spP K.room K.last K.l 1 g c).e, (Pc.spP K.room K.last K.l 1 g c).last, (Pc.spP K.room K.last K.l 1 g c).l, K.S.l, K.S.ns⟩)
  else ⟨0, 90, K.last, K.l, K.S.l, K.S.ns⟩
theorem sp_n (room last : Int) (l : Pc.Ps) (k : Int) (g c : ByteArray) : (Pc.spP room last l k g c).n ≤ last + 1 ∨ (Pc.spP room last l k g c).n = 0 := by
  unfold Pc.spP
  split
  · split
    · exact .inr rfl
    · exact .inl (Int.le_refl _)
  · exact .inr rfl
set_option maxRecDepth 100000 in
set_option maxHeartbeats 4000000 in
theorem spawn_any {K : Kst} {w : World} (h : Ks w K) (hw : Kw K) (g c : ByteArray) (hg : g.size ≤ 1000) :
    Calls Tryz.prog 13 #[kp K, .string g, .string c] w fun e w' => e = .returned (.tuple #[.int .i64 (spawnK K g c).n, .int .i64 (spawnK K g c).e]) ∧ ∃ K', Kg K w K' w' 2 ∧ Kv K K' (spawnK K g c).last (spawnK K g c).l (spawnK K g c).gl (spawnK K g c).ns := by
  have hH := has_any h hw.gs (by have := hw.gc; omega) hw.gl g
  have hla := hw.la
  have hla1 := hw.pw.la
  cases hf : (Cg.fnd K.S.l g).isSome with
  | false =>
    have hR : spawnK K g c = ⟨0, 90, K.last, K.l, K.S.l, K.S.ns⟩ := by unfold spawnK; rw [hf]; rfl
    rw [hR]
    rw [hf] at hH
    have hhH := hidK h
    clear hR hf hw hla hla1 h
    unfold kp at hH ⊢
    go_enter Tryz.func13, Tryz.ntmps13
    go_wp2_with fail
    refine hH.mono ?_
    rintro e w1 ⟨rfl, b1⟩
    have fin := hidK ((Kg.below hhH.out b1).mono (Nat.zero_le 2))
    clear hH b1
    go_wp2_with fail
    go_ret2
    exact ⟨rfl, K, fin.out, rfl, rfl, rfl, rfl, rfl, rfl, rfl⟩
  | true =>
    have hR : spawnK K g c = (if (Pc.spP K.room K.last K.l 1 g c).e = 0 then ⟨(Pc.spP K.room K.last K.l 1 g c).n, 0, (Pc.spP K.room K.last K.l 1 g c).last, (Pc.spP K.room K.last K.l 1 g c).l, Cg.putL K.S.l (Pc.spP K.room K.last K.l 1 g c).n g, Cg.putN K.S.l K.S.ns (Pc.spP K.room K.last K.l 1 g c).n g⟩
     else ⟨0, (Pc.spP K.room K.last K.l 1 g c).e, (Pc.spP K.room K.last K.l 1 g c).last, (Pc.spP K.room K.last K.l 1 g c).l, K.S.l, K.S.ns⟩) := by
      unfold spawnK; rw [if_pos hf]
    rw [hf] at hH
    have hS : Hid (∀ W (hk : Ks W K), Calls Tryz.prog 59 #[.pointer (some ⟨K.S.bt, 0, none⟩), .int .i64 1, .string g, .string c] W fun e w' => e = .returned (.tuple #[.int .i64 (Pc.spP K.room K.last K.l 1 g c).n, .int .i64 (Pc.spP K.room K.last K.l 1 g c).e]) ∧ Kg K W { K with last := (Pc.spP K.room K.last K.l 1 g c).last, l := (Pc.spP K.room K.last K.l 1 g c).l } w' 0) := fun W hk =>
      (Pc.spawn_any K.S.bt K.bm K.room K.last K.l 1 g c W hk.t (by omega) (by omega) (fun q hq => (hw.pw.rng q hq).2) (by have := hw.pw.len'; omega) (by omega) (by omega)).mono (fun e w' q => ⟨q.1, hk.proc q.2.1 q.2.2⟩)
    obtain ⟨P, hP⟩ : ∃ P, Pc.spP K.room K.last K.l 1 g c = P := ⟨_, rfl⟩
    have hPn := sp_n K.room K.last K.l 1 g c
    rw [hP] at hS hR hPn
    obtain ⟨R, hRR⟩ : ∃ R, spawnK K g c = R := ⟨_, rfl⟩
    rw [hRR] at hR ⊢
    clear hRR hP
    obtain ⟨pn, pe, plast, pl⟩ := P
    simp only at hS hR hPn
    have hhH := hidK h
    have hgc := hidK hw.gc
    have hPnH : Hid (pn ≤ 9223372036854775807) := by show _ ≤ _; omega
    clear hf hw hla hla1 h hPn
    unfold kp at hH ⊢
    by_cases hpe : pe = 0
    · subst hpe
      rw [if_pos rfl] at hR
      subst hR
      go_enter Tryz.func13, Tryz.ntmps13
      go_wp2_with fail
      refine hH.mono ?_
      rintro e w1 ⟨rfl, b1⟩
      have hS1 := hS.out w1 (hhH.out.below b1)
      have b1H := hidK b1
      clear hH b1
      go_wp2_with fail
      refine hS1.mono ?_
      rintro e w2 ⟨rfl, k2⟩
      have hP2 := Cg.put_any _ pn g w2 k2.k.g hg hPnH.out (by have := hgc.out; show K.S.c ≤ _; omega)
      change Calls Tryz.prog 60 #[.pointer (some ⟨K.S.bt, 3, none⟩), .int .i64 pn, .string g] w2 _ at hP2
      have k2H := hidK k2
      clear hS1 k2
      go_wp2_with fail
      refine hP2.mono ?_
      rintro e w3 ⟨rfl, S', g3, l3, n3⟩
      have fin := hidK (((Kg.below hhH.out b1H.out).trans k2H.out).trans (k2H.out.k.group g3))
      have l3H := hidK l3
      have n3H := hidK n3
      clear hP2 g3 l3 n3
      go_wp2_with fail
      go_ret2
      exact ⟨rfl, _, fin.out.mono (by omega), rfl, rfl, rfl, rfl, rfl, l3H.out, n3H.out⟩
    · rw [if_neg hpe] at hR
      subst hR
      go_enter Tryz.func13, Tryz.ntmps13
      go_wp2_with fail
      refine hH.mono ?_
      rintro e w1 ⟨rfl, b1⟩
      have hS1 := hS.out w1 (hhH.out.below b1)
      have b1H := hidK b1
      clear hH b1
      go_wp2_with fail
      refine hS1.mono ?_
      rintro e w2 ⟨rfl, k2⟩
      have fin := hidK ((Kg.below hhH.out b1H.out).trans k2)
      clear hS1 k2
      go_wp2_with fail
      go_ret2
      exact ⟨rfl, _, fin.out.mono (by omega), rfl, rfl, rfl, rfl, rfl, rfl, rfl⟩
end Go.Proofs.YtgienkdfodjoiaaGreat
