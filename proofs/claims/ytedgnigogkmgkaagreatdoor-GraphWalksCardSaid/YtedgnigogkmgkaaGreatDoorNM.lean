/- Plain mathematics of unit names, no program: the bytes of a name, what is escaped and read back, paths, specifiers, the parts of a name. -/
import Derived.Lib.IndexMore
import Derived.Lib.IndexBytes
import Derived.Lib.Strings
namespace Go.Proofs.YtedgnigogkmgkaaGreatDoor.Nam
abbrev L := List UInt8
theorem all8 (P : UInt8 → Prop) (h : ∀ n : Fin 256, P (UInt8.ofNat n.val)) (c : UInt8) : P c := by
  have := h ⟨c.toNat, c.toNat_lt⟩
  simpa using this
def al (c : UInt8) : Bool := decide ((97 ≤ c.toNat ∧ c.toNat ≤ 122) ∨ (65 ≤ c.toNat ∧ c.toNat ≤ 90) ∨ (48 ≤ c.toNat ∧ c.toNat ≤ 57))
def sp (c : UInt8) : Bool := al c || decide (0 ≤ Lib.indexByte [58, 45, 95, 46, 92] c)
def spelt (l : L) : Bool := l.all sp
def hx (n : Nat) : UInt8 := if n < 10 then UInt8.ofNat (48 + n) else UInt8.ofNat (87 + n)
def kp (first : Bool) (c : UInt8) : Bool := al c || c == 58 || c == 95 || (c == 46 && !first)
/-- One byte, escaped. -/
def e1 (first : Bool) (c : UInt8) : L := if c == 47 then [45] else if kp first c then [c] else [92, 120, hx (c.toNat / 16), hx (c.toNat % 16)]
def esc : L → L
  | [] => []
  | c :: r => e1 true c ++ r.flatMap (e1 false)
theorem esc_snoc (l : L) (c : UInt8) : esc (l ++ [c]) = esc l ++ e1 (l.length == 0) c := by
  cases l with
  | nil => simp [esc]
  | cons a r => simp [esc]
def uh (c : UInt8) : Option Nat := if 48 ≤ c.toNat ∧ c.toNat ≤ 57 then some (c.toNat - 48) else if 97 ≤ c.toNat ∧ c.toNat ≤ 102 then some (c.toNat - 87) else none
def hv (x h l : UInt8) : Option UInt8 := if x = 120 then (uh h).bind fun a => (uh l).map fun b => UInt8.ofNat (16 * a + b) else none
/-- What stands behind a backslash. -/
def nb : L → Option (UInt8 × L)
  | x :: h :: l :: t => (hv x h l).map fun b => (b, t)
  | _ => none
def rdF : Nat → L → Option L
  | _, [] => some []
  | 0, _ :: _ => none
  | n + 1, c :: r => if c = 92 then (nb r).bind (fun p => (rdF n p.2).map (p.1 :: ·)) else (rdF n r).map ((if c = 45 then 47 else c) :: ·)
theorem nb_len {r : L} {p : UInt8 × L} (h : nb r = some p) : p.2.length + 3 = r.length := by
  match r, h with
  | x :: a :: l :: t, h =>
    simp only [nb, Option.map_eq_some_iff] at h
    obtain ⟨b, _, rfl⟩ := h
    simp
theorem rdF_fuel : ∀ (n m : Nat) (l : L), l.length ≤ n → l.length ≤ m → rdF n l = rdF m l
  | n, m, [], _, _ => by cases n <;> cases m <;> rfl
  | 0, _, _ :: _, h, _ => by simp at h
  | _, 0, _ :: _, _, h => by simp at h
  | n + 1, m + 1, c :: r, h1, h2 => by
    simp only [List.length_cons] at h1 h2
    simp only [rdF]
    split
    · cases hp : nb r with
      | none => rfl
      | some p =>
        have := nb_len hp
        simp only [Option.bind_some]
        rw [rdF_fuel n m p.2 (by omega) (by omega)]
    · rw [rdF_fuel n m r (by omega) (by omega)]
/-- The text of an escaped one, or nearly so. -/
def rd (l : L) : Option L := rdF l.length l
theorem rd_nil : rd [] = some [] := rfl
theorem rd_bs (r : L) : rd (92 :: r) = (nb r).bind (fun p => (rd p.2).map (p.1 :: ·)) := by
  unfold rd
  simp only [List.length_cons, rdF, if_true]
  cases hp : nb r with
  | none => rfl
  | some p =>
    have := nb_len hp
    simp only [Option.bind_some]
    rw [rdF_fuel r.length p.2.length p.2 (by omega) (by omega)]
theorem rd_plain (c : UInt8) (r : L) (h : c ≠ 92) : rd (c :: r) = (rd r).map ((if c = 45 then 47 else c) :: ·) := by
  unfold rd
  simp only [List.length_cons, rdF, if_neg h]
theorem kp_no : ∀ (f : Bool) (c : UInt8), kp f c = true → c ≠ 92 ∧ c ≠ 45 := by
  intro f
  refine all8 _ ?_
  cases f <;> decide +kernel
theorem hv_hx : ∀ c : UInt8, hv 120 (hx (c.toNat / 16)) (hx (c.toNat % 16)) = some c := by
  refine all8 _ ?_
  decide +kernel
theorem rd_e1 (f : Bool) (c : UInt8) (r : L) : rd (e1 f c ++ r) = (rd r).map (c :: ·) := by
  unfold e1
  split
  · rename_i h
    have : c = 47 := by simpa using h
    subst this
    rw [List.singleton_append, rd_plain _ _ (by decide)]
    rfl
  · split
    · rename_i h
      obtain ⟨h1, h2⟩ := kp_no f c h
      rw [List.singleton_append, rd_plain _ _ h1, if_neg h2]
    · show rd (92 :: 120 :: hx (c.toNat / 16) :: hx (c.toNat % 16) :: r) = _
      rw [rd_bs, nb, hv_hx]
      rfl
theorem rd_flat : ∀ l : L, rd (l.flatMap (e1 false)) = some l
  | [] => rfl
  | c :: r => by rw [List.flatMap_cons, rd_e1, rd_flat r]; rfl
theorem rd_esc (l : L) : rd (esc l) = some l := by
  cases l with
  | nil => rfl
  | cons c r => rw [esc, rd_e1, rd_flat]; rfl
def unesc (s : L) : Option L := (rd s).bind fun t => if esc t = s then some t else none
theorem unesc_esc (l : L) : unesc (esc l) = some l := by unfold unesc; rw [rd_esc]; simp
theorem esc_inj {a b : L} (h : esc a = esc b) : a = b := by
  have := rd_esc a
  rw [h, rd_esc] at this
  exact (Option.some.inj this).symm
/-- Parts between strokes. -/
def pieces : L → List L
  | [] => [[]]
  | c :: r => if c = 47 then [] :: pieces r else (match pieces r with | p :: q => (c :: p) :: q | [] => [[c]])
def okp (p : L) : Bool := !(p == [] || p == [46] || p == [46, 46])
def okAll (l : List L) : Bool := l.all okp
theorem okAll_cons (x : L) (r : List L) : okAll (x :: r) = (okp x && okAll r) := List.all_cons
def ofPath (s : L) : Option L :=
  if s = [47] then some [45] else match s with
  | [] => none
  | c :: r => if c = 47 then (if okAll (pieces (Lib.trimSuffix r [47])) then some (esc (Lib.trimSuffix r [47])) else none) else none
def ends : List L := [[46, 115, 101, 114, 118, 105, 99, 101], [46, 115, 111, 99, 107, 101, 116], [46, 116, 105, 109, 101, 114], [46, 112, 97, 116, 104], [46, 109, 111, 117, 110, 116], [46, 116, 97, 114, 103, 101, 116]]
def endk (k : Nat) : L := ends.getD k []
def fnd (s : L) : Nat → List L → Option (L × Nat)
  | _, [] => none
  | k, e :: r => if Lib.hasSuffix s e then some (s.take (s.length - e.length), k) else fnd s (k + 1) r
abbrev Prt := L × L × Bool × Nat
/-- The parts of a stem. -/
def stm (st : L) (k : Nat) : Option Prt :=
  if (Lib.cut st [64]).1 == [] || !(spelt (Lib.cut st [64]).1) || !(spelt (Lib.cut st [64]).2.1) then none
  else some ((Lib.cut st [64]).1, (Lib.cut st [64]).2.1, (Lib.cut st [64]).2.2, k)
def cutN (s : L) : Option Prt := if 60 < s.length then none else (fnd s 0 ends).bind fun p => stm p.1 p.2
def zp : Prt := ([], [], false, 6)
def kindN (s : L) : Nat := match cutN s with | some p => p.2.2.2 + 1 | none => 0
def prefN (s : L) : L := match cutN s with | some p => p.1 | none => []
def instN (s : L) : L := match cutN s with | some p => p.2.1 | none => []
def markN (s : L) : Bool := match cutN s with | some p => p.2.2.1 | none => false
def mk (p i : L) (k : Nat) : L := p ++ 64 :: (i ++ endk k)
def tmplN (s : L) : L := match cutN s with | some p => if p.2.2.1 then mk p.1 [] p.2.2.2 else [] | none => []
def withN (s i : L) : Option L := match cutN s with
  | some p => if p.2.2.1 = true ∧ p.2.1 = [] ∧ (cutN (mk p.1 i p.2.2.2)).isSome then some (mk p.1 i p.2.2.2) else none
  | none => none
def spec (d : UInt8) (u : L) (p : Prt) : Option L :=
  if d = 110 then some u else if d = 112 then some p.1 else if d = 105 then some p.2.1 else if d = 73 then unesc p.2.1 else if d = 37 then some [37] else none
def expF (u : L) (p : Prt) : Nat → L → Option L
  | _, [] => some []
  | 0, _ :: _ => none
  | n + 1, c :: r => if c = 37 then (match r with | [] => none | d :: t => (spec d u p).bind fun m => (expF u p n t).map (m ++ ·)) else (expF u p n r).map (c :: ·)
theorem expF_fuel (u : L) (p : Prt) : ∀ (n m : Nat) (l : L), l.length ≤ n → l.length ≤ m → expF u p n l = expF u p m l
  | n, m, [], _, _ => by cases n <;> cases m <;> rfl
  | 0, _, _ :: _, h, _ => by simp at h
  | _, 0, _ :: _, _, h => by simp at h
  | n + 1, m + 1, c :: r, h1, h2 => by
    simp only [List.length_cons] at h1 h2
    simp only [expF]
    split
    · cases r with
      | nil => rfl
      | cons d t =>
        simp only [List.length_cons] at h1 h2
        simp only
        rw [expF_fuel u p n m t (by omega) (by omega)]
    · rw [expF_fuel u p n m r (by omega) (by omega)]
def expn (u : L) (p : Prt) (t : L) : Option L := expF u p t.length t
theorem expn_plain (u : L) (p : Prt) (c : UInt8) (r : L) (h : c ≠ 37) : expn u p (c :: r) = (expn u p r).map (c :: ·) := by
  unfold expn
  simp only [List.length_cons, expF, if_neg h]
theorem expn_end (u : L) (p : Prt) : expn u p [37] = none := rfl
theorem expn_spec (u : L) (p : Prt) (d : UInt8) (t : L) : expn u p (37 :: d :: t) = (spec d u p).bind fun m => (expn u p t).map (m ++ ·) := by
  unfold expn
  simp only [List.length_cons, expF, if_true]
  rw [expF_fuel u p (t.length + 1) t.length t (by omega) (by omega)]
theorem expn_app (u : L) (p : Prt) : ∀ (a r : L), (∀ c ∈ a, c ≠ 37) → expn u p (a ++ r) = (expn u p r).map (a ++ ·)
  | [], r, _ => by cases h : expn u p r <;> simp [h]
  | c :: a, r, h => by
    rw [List.cons_append, expn_plain _ _ _ _ (h c (by simp)), expn_app u p a r (fun x hx => h x (by simp [hx]))]
    cases expn u p r <;> simp
end Go.Proofs.YtedgnigogkmgkaaGreatDoor.Nam
