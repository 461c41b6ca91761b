/- The code's and the reference's contracts, pair by pair, at every input. -/
import Derived.Test.YtgogbbhbkckfgaaDoorR7
import Derived.Test.YtgogbbhbkckfgaaDoorO2
namespace Go.Proofs.YtgogbbhbkckfgaaDoor
open Go.RowKit
theorem rDays_any (y m d : Int) (w : World) :
    Calls Tryd.prog 10 #[.agg #[.int .i64 y, .int .i64 m, .int .i64 d]] w fun e w' => e = .returned (.tuple #[.int .i64 (daysV y m d), .int .i64 (daysE y m d)]) ∧ Below w.heap.size w w' := by
  unfold daysV daysE
  cases hv : Civ.vldB y m d
  · exact rDays_no y m d w hv
  · exact rDays_yes y m d w hv
theorem rUnix_any (y m d h mi s : Int) (w : World) :
    Calls Tryd.prog 20 #[momV y m d h mi s] w fun e w' => e = .returned (.tuple #[.int .i64 (unixV y m d h mi s), .int .i64 (unixE y m d h mi s)]) ∧ Below w.heap.size w w' := by
  unfold unixV unixE mOk
  cases hv : Civ.vldB y m d
  · exact rUnix_no y m d h mi s w (.inl hv)
  · cases ht : Civ.timB h mi s
    · exact rUnix_no y m d h mi s w (.inr ht)
    · exact rUnix_yes y m d h mi s w hv ht
def inB (n : Int) : Bool := decide (0 ≤ n) && decide (n < 84371)
def gY (n : Int) : Int := if inB n = true then Civ.dY n else 0
def gM (n : Int) : Int := if inB n = true then Civ.dM n else 0
def gD (n : Int) : Int := if inB n = true then Civ.dD n else 0
def gE (n : Int) : Int := if inB n = true then 0 else 20
theorem date_any (n : Int) (w : World) (hT : LenIn w) :
    Calls Tryd.prog 17 #[.int .i64 n] w fun e w' => e = .returned (.tuple #[.agg #[.int .i64 (gY n), .int .i64 (gM n), .int .i64 (gD n)], .int .i64 (gE n)]) ∧ Below w.heap.size w w' := by
  unfold gY gM gD gE
  cases hb : inB n
  · exact date_no n w (by unfold inB at hb; simp at hb; omega)
  · exact date_yes n w hT (by unfold inB at hb; simp at hb; omega) (by unfold inB at hb; simp at hb; omega)
theorem rDate_any (n : Int) (w : World) (hi : n ≤ 9223372036854775807) :
    Calls Tryd.prog 18 #[.int .i64 n] w fun e w' => e = .returned (.tuple #[.agg #[.int .i64 (gY n), .int .i64 (gM n), .int .i64 (gD n)], .int .i64 (gE n)]) ∧ Below w.heap.size w w' := by
  unfold gY gM gD gE
  cases hb : inB n
  · exact rDate_no n w (by unfold inB at hb; simp at hb; omega) hi
  · exact rDate_yes n w (by unfold inB at hb; simp at hb; omega) (by unfold inB at hb; simp at hb; omega)
def inT (t : Int) : Bool := decide (0 ≤ t) && decide (t < 7289654400)
def tY (t : Int) : Int := if inT t = true then Civ.dY (t / 86400) else 0
def tM (t : Int) : Int := if inT t = true then Civ.dM (t / 86400) else 0
def tD (t : Int) : Int := if inT t = true then Civ.dD (t / 86400) else 0
def tH (t : Int) : Int := if inT t = true then mH t else 0
def tI (t : Int) : Int := if inT t = true then mMi t else 0
def tS (t : Int) : Int := if inT t = true then mS t else 0
def tE (t : Int) : Int := if inT t = true then 0 else 20
theorem moment_any (t : Int) (w : World) (hT : LenIn w) :
    Calls Tryd.prog 21 #[.int .i64 t] w fun e w' => e = .returned (.tuple #[momV (tY t) (tM t) (tD t) (tH t) (tI t) (tS t), .int .i64 (tE t)]) ∧ Below w.heap.size w w' := by
  unfold tY tM tD tH tI tS tE
  cases hb : inT t
  · exact moment_no t w (by unfold inT at hb; simp at hb; omega)
  · exact moment_yes t w hT (by unfold inT at hb; simp at hb; omega) (by unfold inT at hb; simp at hb; omega)
theorem rMoment_any (t : Int) (w : World) (hi : t ≤ 9223372036854775807) :
    Calls Tryd.prog 22 #[.int .i64 t] w fun e w' => e = .returned (.tuple #[momV (tY t) (tM t) (tD t) (tH t) (tI t) (tS t), .int .i64 (tE t)]) ∧ Below w.heap.size w w' := by
  unfold tY tM tD tH tI tS tE
  cases hb : inT t
  · exact rMoment_no t w (by unfold inT at hb; simp at hb; omega) hi
  · exact rMoment_yes t w (by unfold inT at hb; simp at hb; omega) (by unfold inT at hb; simp at hb; omega)
def prT (y m d h mi s : Int) : List UInt8 := if mOk y m d h mi s = true then Civ.txt y.toNat m.toNat d.toNat h.toNat mi.toNat s.toNat else []
theorem nats {y m d h mi s : Int} (hv : Civ.vldB y m d = true) (ht : Civ.timB h mi s = true) : y = (y.toNat : Int) ∧ m = (m.toNat : Int) ∧ d = (d.toNat : Int) ∧ h = (h.toNat : Int) ∧ mi = (mi.toNat : Int) ∧ s = (s.toNat : Int) := by
  obtain ⟨v0, v1, v2, v3, v4, v5⟩ := Civ.vldB_iff.1 hv
  obtain ⟨a0, a1, a2, a3, a4, a5⟩ := Civ.timB_iff.1 ht
  omega
theorem print_any (y m d h mi s : Int) (w : World) (hT : TabP w) :
    Calls Tryd.prog 15 #[momV y m d h mi s] w fun e w' => e = .returned (.string ⟨(prT y m d h mi s).toArray⟩) ∧ Below w.heap.size w w' := by
  unfold prT
  cases hv : Civ.vldB y m d
  · rw [if_neg (by simp [mOk, hv])]; exact print_no y m d h mi s w hT.len (.inl hv)
  · cases ht : Civ.timB h mi s
    · rw [if_neg (by simp [mOk, ht])]; exact print_no y m d h mi s w hT.len (.inr ht)
    · rw [if_pos (by simp [mOk, hv, ht])]
      obtain ⟨e1, e2, e3, e4, e5, e6⟩ := nats hv ht
      have := print_yes y.toNat m.toNat d.toNat h.toNat mi.toNat s.toNat w hT (by rw [← e1, ← e2, ← e3]; exact hv) (by rw [← e4, ← e5, ← e6]; exact ht)
      rw [← e1, ← e2, ← e3, ← e4, ← e5, ← e6] at this
      exact this
theorem rPrint_any (y m d h mi s : Int) (w : World) :
    Calls Tryd.prog 16 #[momV y m d h mi s] w fun e w' => e = .returned (.string ⟨(prT y m d h mi s).toArray⟩) ∧ Below w.heap.size w w' := by
  unfold prT
  cases hv : Civ.vldB y m d
  · rw [if_neg (by simp [mOk, hv])]; exact rPrint_no y m d h mi s w (.inl hv)
  · cases ht : Civ.timB h mi s
    · rw [if_neg (by simp [mOk, ht])]; exact rPrint_no y m d h mi s w (.inr ht)
    · rw [if_pos (by simp [mOk, hv, ht])]
      obtain ⟨e1, e2, e3, e4, e5, e6⟩ := nats hv ht
      have := rPrint_yes y.toNat m.toNat d.toNat h.toNat mi.toNat s.toNat w (by rw [← e1, ← e2, ← e3]; exact hv) (by rw [← e4, ← e5, ← e6]; exact ht)
      rw [← e1, ← e2, ← e3, ← e4, ← e5, ← e6] at this
      exact this
end Go.Proofs.YtgogbbhbkckfgaaDoor
