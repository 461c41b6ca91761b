import Derived.Lib.IndexMore
import Derived.Lib.IndexBytes
import Derived.Lib.Strings
import Derived.Lib.SlTrimSet
import Derived.Lib.IndexAny
import Derived.Test.YtiinhfbfciccnaaDoorShelf
import Derived.Shelf.Strings.SlTrimAscii
import Derived.Test.YtiinhfbfciccnaaDoorYA
import Derived.Test.YtiinhfbfciccnaaDoorShelfW
import Derived.WalkKit
import Derived.WalkSpells
import Derived.BigQuiet
import Derived.Deep.QuietTactic
import Derived.KernelRfl
import Derived.OwnWalk
import Derived.Laws.RangeAny
import Derived.Laws.Runes
import Derived.Deep.LoopGhost
import Derived.Lib.TrimU
import Derived.Lib.OthersKept
import Derived.WalkMore
import Derived.Maps.AppendAt
/- Plain mathematics of lines and words, no program: blanks, lines that go on, what a line is, words, quotes. -/
namespace Go.Proofs.YtiinhfbfciccnaaDoor.Lin
abbrev L := List UInt8
theorem all8 (P : UInt8 → Prop) (h : ∀ n : Fin 256, P (UInt8.ofNat n.val)) (c : UInt8) : P c := by
  have := h ⟨c.toNat, c.toNat_lt⟩
  simpa using this
def al (c : UInt8) : Bool := decide ((97 ≤ c.toNat ∧ c.toNat ≤ 122) ∨ (65 ≤ c.toNat ∧ c.toNat ≤ 90) ∨ (48 ≤ c.toNat ∧ c.toNat ≤ 57))
def sc (c : UInt8) : Bool := decide (32 ≤ c.toNat ∧ c.toNat ≠ 91 ∧ c.toNat ≠ 93)
def bl (c : UInt8) : Bool := [32, 9].contains c
theorem bl_iff (c : UInt8) : bl c = true ↔ c = 32 ∨ c = 9 := by simp [bl]
theorem bl_no (c : UInt8) : bl c = false ↔ c ≠ 32 ∧ c ≠ 9 := by simp [bl]
def trimL (l : L) : L := Lib.trimLeftS l [32, 9]
def trimR (l : L) : L := Lib.trimRightS l [32, 9]
def trim (l : L) : L := Lib.trimS l [32, 9]
def made (p : UInt8 → Bool) (l : L) : Bool := l.all p && !(l == [])
/-- The name between a section's brackets. -/
def secN (t : L) : Option L :=
  if Lib.hasPrefix t [91] && Lib.hasSuffix (Lib.trimPrefix t [91]) [93] && made sc (Lib.trimSuffix (Lib.trimPrefix t [91]) [93]) then some (Lib.trimSuffix (Lib.trimPrefix t [91]) [93]) else none
abbrev Kv := Nat × L × L
/-- A line: its kind, key and value. -/
def prs (s : L) : Option Kv :=
  match secN (trim s) with
  | some n => some (1, n, [])
  | none => if (Lib.cut (trim s) [61]).2.2 && made al (trimR (Lib.cut (trim s) [61]).1) then some (2, trimR (Lib.cut (trim s) [61]).1, trimL (Lib.cut (trim s) [61]).2.1) else none
/-- Parts between line feeds. -/
def pieces : L → List L
  | [] => [[]]
  | c :: r => if c = 10 then [] :: pieces r else (match pieces r with | p :: q => (c :: p) :: q | [] => [[c]])
theorem pieces_none : ∀ l : L, (∀ x ∈ l, x ≠ 10) → pieces l = [l]
  | [], _ => rfl
  | c :: r, h => by
    have hc : c ≠ 10 := h c (by simp)
    simp only [pieces, if_neg hc]
    rw [pieces_none r (fun x hx => h x (by simp [hx]))]
theorem pieces_split : ∀ (a b : L), (∀ x ∈ a, x ≠ 10) → pieces (a ++ 10 :: b) = a :: pieces b
  | [], b, _ => by simp [pieces]
  | c :: r, b, h => by
    have hc : c ≠ 10 := h c (by simp)
    rw [List.cons_append]
    simp only [pieces, if_neg hc]
    rw [pieces_split r b (fun x hx => h x (by simp [hx]))]
def lout (p : L) : Bool := match trimL p with | [] => true | c :: _ => c == 35 || c == 59
/-- Whole lines: n lines are gone; b: where the line that goes on has begun, or 0; x: its text so far. -/
def whl (n b : Nat) (x : L) : List L → List (Nat × L)
  | [] => if b = 0 then [] else [(b, x)]
  | p :: r =>
    if b = 0 ∧ lout p = true then whl (n + 1) 0 x r
    else if Lib.hasSuffix p [92] then whl (n + 1) (if b = 0 then n + 1 else b) (x ++ Lib.trimSuffix p [92] ++ [32]) r
    else (if b = 0 then n + 1 else b, x ++ p) :: whl (n + 1) 0 [] r
abbrev Ln := Nat × L × L × Nat
abbrev Res := Except (Nat × Int) (List Ln)
def lnsW : List (Nat × L) → Res
  | [] => .ok []
  | (n, t) :: r => if 400 < t.length then .error (n, 51) else match prs t with
    | none => .error (n, 50)
    | some p => match lnsW r with
      | .ok l => .ok ((p.1, p.2.1, p.2.2, n) :: l)
      | .error e => .error e
/-- The lines of a text, or its first error and where. -/
def lns (s : L) : Res := if 4000 < s.length then .error (0, 51) else lnsW (whl 0 0 [] (pieces s))
/-- Words. -/
def bat (l : L) : Nat := (l.takeWhile (fun c => !bl c)).length
def es1 (c : UInt8) : Option UInt8 := if c = 34 ∨ c = 39 ∨ c = 92 then some c else if c = 110 then some 10 else none
def cutQF (q : UInt8) : Nat → L → Option (L × L)
  | _, [] => none
  | 0, _ :: _ => none
  | n + 1, c :: r => if c = q then some ([], r) else if c = 92 then (match r with | [] => none | d :: t => (es1 d).bind fun m => (cutQF q n t).map fun p => (m :: p.1, p.2)) else (cutQF q n r).map fun p => (c :: p.1, p.2)
theorem cutQF_fuel (q : UInt8) : ∀ (n m : Nat) (l : L), l.length ≤ n → l.length ≤ m → cutQF q n l = cutQF q m l
  | n, m, [], _, _ => by cases n <;> cases m <;> rfl
  | 0, _, _ :: _, h, _ => by simp at h
  | _, 0, _ :: _, _, h => by simp at h
  | n + 1, m + 1, c :: r, h1, h2 => by
    simp only [List.length_cons] at h1 h2
    simp only [cutQF]
    split
    · rfl
    · split
      · cases r with
        | nil => rfl
        | cons d t =>
          simp only [List.length_cons] at h1 h2
          simp only
          rw [cutQF_fuel q n m t (by omega) (by omega)]
      · rw [cutQF_fuel q n m r (by omega) (by omega)]
/-- A quoted word, its first quote gone: the word, and what is left. -/
def cutQ (q : UInt8) (l : L) : Option (L × L) := cutQF q l.length l
theorem cutQ_nil (q : UInt8) : cutQ q [] = none := rfl
theorem cutQ_end (q : UInt8) (r : L) : cutQ q (q :: r) = some ([], r) := by simp [cutQ, cutQF]
theorem cutQ_bs0 (q : UInt8) (hq : q ≠ 92) : cutQ q [92] = none := by simp [cutQ, cutQF, hq.symm]
theorem cutQ_bs (q d : UInt8) (t : L) (hq : q ≠ 92) : cutQ q (92 :: d :: t) = (es1 d).bind fun m => (cutQ q t).map fun p => (m :: p.1, p.2) := by
  unfold cutQ
  simp only [List.length_cons, cutQF, if_neg hq.symm, if_true]
  rw [cutQF_fuel q (t.length + 1) t.length t (by omega) (by omega)]
theorem cutQ_plain (q c : UInt8) (r : L) (h1 : c ≠ q) (h2 : c ≠ 92) : cutQ q (c :: r) = (cutQ q r).map fun p => (c :: p.1, p.2) := by
  unfold cutQ
  simp only [List.length_cons, cutQF, if_neg h1, if_neg h2]
theorem cutQF_len (q : UInt8) : ∀ (n : Nat) (l : L) (p : L × L), cutQF q n l = some p → p.1.length + p.2.length + 1 ≤ l.length
  | n, [], p, h => by cases n <;> cases h
  | 0, _ :: _, p, h => by cases h
  | n + 1, c :: r, p, h => by
    simp only [cutQF] at h
    split at h
    · cases h; simp
    · split at h
      · cases r with
        | nil => cases h
        | cons d t =>
          simp only at h
          cases he : es1 d with
          | none => rw [he] at h; cases h
          | some m =>
            rw [he] at h
            simp only [Option.bind_some, Option.map_eq_some_iff] at h
            obtain ⟨u, hu, rfl⟩ := h
            have := cutQF_len q n t u hu
            simp; omega
      · simp only [Option.map_eq_some_iff] at h
        obtain ⟨u, hu, rfl⟩ := h
        have := cutQF_len q n r u hu
        simp; omega
theorem cutQ_len {q : UInt8} {l : L} {p : L × L} (h : cutQ q l = some p) : p.1.length + p.2.length + 1 ≤ l.length := cutQF_len _ _ _ _ h
/-- The first word of a text that isn't empty, and what is left. -/
def cutW : L → Option (L × L)
  | [] => some ([], [])
  | c :: r => if c = 34 ∨ c = 39 then (cutQ c r).bind fun p => if bat p.2 = 0 then some p else none
    else some ((c :: r).take (bat (c :: r)), (c :: r).drop (bat (c :: r)))
def splF : Nat → L → Option (List L)
  | _, [] => some []
  | 0, _ :: _ => none
  | n + 1, c :: r => (cutW (c :: r)).bind fun p => (splF n (trimL p.2)).map (p.1 :: ·)
/-- The words of a text. -/
def spl (s : L) : Option (List L) := splF s.length (trimL s)
def q1 (c : UInt8) : L := if c = 34 ∨ c = 92 then [92, c] else if c = 10 then [92, 110] else [c]
def quo (s : L) : L := 34 :: (s.flatMap q1 ++ [34])
theorem trimL_len (l : L) : (trimL l).length ≤ l.length := by
  unfold trimL Lib.trimLeftS
  exact (List.dropWhile_suffix _).length_le
theorem trimR_len (l : L) : (trimR l).length ≤ l.length := by
  unfold trimR Lib.trimRightS
  rw [List.length_reverse]
  have := (List.dropWhile_suffix (l := l.reverse) ([32, 9].contains ·)).length_le
  rwa [List.length_reverse] at this
theorem trim_len (l : L) : (trim l).length ≤ l.length := by
  have h : trim l = trimL (trimR l) := rfl
  rw [h]
  exact Nat.le_trans (trimL_len _) (trimR_len _)
theorem bat_cons_pos {c : UInt8} (r : L) (h : bl c = false) : 0 < bat (c :: r) := by
  unfold bat
  rw [List.takeWhile_cons, h]
  simp
theorem bat_le (l : L) : bat l ≤ l.length := by
  unfold bat
  exact (List.takeWhile_prefix _).length_le
theorem bat_zero (l : L) : bat l = 0 ↔ l = [] ∨ ∃ c r, l = c :: r ∧ bl c = true := by
  cases l with
  | nil => simp [bat]
  | cons c r =>
    cases h : bl c
    · have := bat_cons_pos r h
      constructor
      · intro e; omega
      · rintro (e | ⟨d, t, e, hd⟩)
        · cases e
        · cases e; rw [h] at hd; cases hd
    · constructor
      · intro _; exact .inr ⟨c, r, rfl, h⟩
      · intro _; unfold bat; rw [List.takeWhile_cons, h]; rfl
/-- What skips blanks begins with none. -/
theorem trimL_head {l : L} {c : UInt8} {r : L} (h : trimL l = c :: r) : bl c = false := by
  have := List.head?_dropWhile_not ([32, 9].contains ·) l
  unfold trimL Lib.trimLeftS at h
  rw [h] at this
  simpa [bl] using this
theorem cutW_len {c : UInt8} {r : L} (hc : bl c = false) {p : L × L} (h : cutW (c :: r) = some p) : p.2.length < (c :: r).length ∧ p.1.length ≤ (c :: r).length := by
  simp only [cutW] at h
  split at h
  · cases hq : cutQ c r with
    | none => rw [hq] at h; cases h
    | some u =>
      rw [hq] at h
      have := cutQ_len hq
      simp only [Option.bind_some] at h
      split at h
      · cases h; simp; omega
      · cases h
  · cases h
    have := bat_cons_pos r hc
    simp only [List.length_drop, List.length_take, List.length_cons]
    omega
theorem splF_fuel : ∀ (n m : Nat) (l : L), (∀ c r, l = c :: r → bl c = false) → l.length ≤ n → l.length ≤ m → splF n l = splF m l
  | n, m, [], _, _, _ => by cases n <;> cases m <;> rfl
  | 0, _, _ :: _, _, h, _ => by simp at h
  | _, 0, _ :: _, _, _, h => by simp at h
  | n + 1, m + 1, c :: r, hb, h1, h2 => by
    simp only [splF]
    cases hp : cutW (c :: r) with
    | none => rfl
    | some p =>
      have hl := (cutW_len (hb c r rfl) hp).1
      have := trimL_len p.2
      simp only [List.length_cons] at h1 h2 hl
      simp only [Option.bind_some]
      rw [splF_fuel n m (trimL p.2) (fun c r h => trimL_head h) (by omega) (by omega)]
/-- Words of a text that begins with no blank. -/
def spl0 (l : L) : Option (List L) := splF l.length l
theorem spl_eq (s : L) : spl s = spl0 (trimL s) := splF_fuel _ _ _ (fun _ _ h => trimL_head h) (trimL_len s) (Nat.le_refl _)
theorem spl0_nil : spl0 [] = some [] := rfl
theorem spl0_cons {c : UInt8} {r : L} (hc : bl c = false) : spl0 (c :: r) = (cutW (c :: r)).bind fun p => (spl0 (trimL p.2)).map (p.1 :: ·) := by
  unfold spl0
  rw [List.length_cons]
  simp only [splF]
  cases hp : cutW (c :: r) with
  | none => rfl
  | some p =>
    have hl := (cutW_len hc hp).1
    have := trimL_len p.2
    simp only [List.length_cons] at hl
    simp only [Option.bind_some]
    rw [splF_fuel r.length (trimL p.2).length (trimL p.2) (fun _ _ h => trimL_head h) (by omega) (Nat.le_refl _)]
end Go.Proofs.YtiinhfbfciccnaaDoor.Lin
/- The library's contracts of strings.Trim, TrimLeft, TrimRight at the cutset of a blank and a tab, laid at this program. -/
namespace Go.Proofs
open Go.Shelf Go.RowKit
theorem Tryd.trimLeft_any (s : ByteArray) (w : World) :
    Calls Tryd.prog 58 #[.string s, .string ⟨#[32, 9]⟩] w fun e w' => e = .returned (.string ⟨(Lib.trimLeftS s.data.toList [32, 9]).toArray⟩) ∧ Below w.heap.size w w' :=
  Any.strings_TrimLeft_laid Tryd.lays161 (by kernel_rfl) s ⟨#[32, 9]⟩ w (by decide) (ascii_of_all (by decide))
theorem Tryd.trimRight_any (s : ByteArray) (w : World) (hs : s.size ≤ 9223372036854775807) :
    Calls Tryd.prog 55 #[.string s, .string ⟨#[32, 9]⟩] w fun e w' => e = .returned (.string ⟨(Lib.trimRightS s.data.toList [32, 9]).toArray⟩) ∧ Below w.heap.size w w' :=
  Any.strings_TrimRight_laid Tryd.lays162 (by kernel_rfl) s ⟨#[32, 9]⟩ w hs (by decide) (ascii_of_all (by decide))
theorem Tryd.trim_any (s : ByteArray) (w : World) (hs : s.size ≤ 9223372036854775807) :
    Calls Tryd.prog 52 #[.string s, .string ⟨#[32, 9]⟩] w fun e w' => e = .returned (.string ⟨(Lib.trimS s.data.toList [32, 9]).toArray⟩) ∧ Below w.heap.size w w' :=
  Any.strings_Trim_laid Tryd.lays160 (by kernel_rfl) s ⟨#[32, 9]⟩ w hs (by decide) (ascii_of_all (by decide))
end Go.Proofs
/- Small laws of texts, cells and blocks; contracts of package line's isLetterOrDigit, isOfSection, isMadeOf. -/
namespace Go.Proofs.YtiinhfbfciccnaaDoor
open Go.RowKit Lin
theorem byteCells_snoc (l : L) (c : UInt8) : Lib.byteCells (l ++ [c]) = Lib.byteCells l ++ [Value.int .u8 c.toNat] := by simp [Lib.byteCells]
theorem fresh_builder (w : World) : Lib.IsBuilder 77 5 w.heap.size w.heap.size (Lib.byteCells []) (w.alloc (.cells #[.pointer none, .slice none 0 0] 77)) :=
  .inl ⟨Nat.le_refl _, _, heap_alloc_new w _, World.ownsRow_nil _ _ _ _, by simp [Value.ownBlock]⟩
theorem drewN_builder {T e : TypeId} {B b : Nat} {bs : List Value} {w : World} (h : Lib.IsBuilder T e B b bs w) (n : Nat) : Lib.IsBuilder T e B b bs (w.drewN n) := by
  rcases h with ⟨h1, v, h2, h3, h4⟩ | ⟨h1, v, h2, h3, h4⟩
  · exact .inl ⟨h1, v, h2, h3, h4⟩
  · exact .inr ⟨h1, v, h2, h3, h4⟩
theorem byte_back (c : UInt8) : (c.toNat : Int).toNat.toUInt8 = c := by simp
theorem indexByte_any (s : ByteArray) (c : UInt8) (w : World) :
    Calls Tryd.prog 92 #[.string s, .int .u8 c.toNat] w fun e w' => e = .returned (.int .i64 (Lib.indexByte s.data.toList c)) ∧ w' = w := by
  have := Tryd.strings_IndexByte s c.toNat w
  rwa [byte_back] at this
/-- A byte against a number. -/
theorem u8_ne {c : UInt8} (d : UInt8) (h : c ≠ d) : ¬ (c.toNat : Int) = (d.toNat : Int) := fun e => h (UInt8.toNat_inj.1 (by omega))
/-- A text that is its first byte and the rest. -/
theorem uncons (s : ByteArray) (h : 0 < s.size) : ∃ R : ByteArray, s.extract 1 s.size = R ∧ R.size + 1 = s.size ∧ s.data.toList = s[0] :: R.data.toList := by
  have hRl : (s.extract 1 s.size).data.toList = s.data.toList.drop 1 := by
    rw [Lib.extract_data, List.take_of_length_le (by rw [List.length_drop, size_list]; exact Nat.le_refl _)]
  refine ⟨_, rfl, ?_, ?_⟩
  · have := congrArg List.length hRl
    rw [size_list, List.length_drop, size_list] at this; omega
  · rw [hRl]
    have := List.drop_eq_getElem_cons (l := s.data.toList) (i := 0) (by rw [size_list]; omega)
    rw [List.drop_zero] at this
    exact this
theorem size_pos {s : ByteArray} (h : (s.toList == []) = false) : 0 < s.size := by
  rw [← size_list]
  refine List.length_pos_iff.2 fun e => ?_
  rw [Lib.toList_data, e] at h; cases h
theorem size_zero {s : ByteArray} (h : (s.toList == []) = true) : s.data.toList = [] := by rw [Lib.toList_data] at h; simpa using h
theorem app_list (P : ByteArray) (e : Array UInt8) : P ++ (⟨e⟩ : ByteArray) = ⟨(P.data.toList ++ e.toList).toArray⟩ := by
  rw [← Lib.mk_data (P ++ _)]
  simp
set_option maxHeartbeats 1000000 in
theorem lod_any (c : UInt8) (w : World) :
    Calls Tryd.prog 57 #[.int .u8 c.toNat] w fun e w' => e = .returned (.bool (al c)) ∧ w' = w := by
  have hc := c.toNat_lt
  have hA : Hid (al c = decide ((97 ≤ c.toNat ∧ c.toNat ≤ 122) ∨ (65 ≤ c.toNat ∧ c.toNat ≤ 90) ∨ (48 ≤ c.toNat ∧ c.toNat ≤ 57))) := rfl
  go_enter Tryd.func57, Tryd.ntmps57
  go_wp2
  all_goals
    go_ret
    refine ⟨ret_bool ?_, rfl⟩
    rw [hA.out]
    first | (simp; omega) | (rw [Bool.eq_iff_iff]; simp; omega) | (rw [Bool.eq_iff_iff]; simp at *; omega)
set_option maxHeartbeats 1000000 in
theorem ofs_any (c : UInt8) (w : World) :
    Calls Tryd.prog 73 #[.int .u8 c.toNat] w fun e w' => e = .returned (.bool (sc c)) ∧ w' = w := by
  have hc := c.toNat_lt
  have hA : Hid (sc c = decide (32 ≤ c.toNat ∧ c.toNat ≠ 91 ∧ c.toNat ≠ 93)) := rfl
  go_enter Tryd.func73, Tryd.ntmps73
  go_wp2
  all_goals
    go_ret
    refine ⟨ret_bool ?_, rfl⟩
    rw [hA.out]
    first | (simp; omega) | (rw [Bool.eq_iff_iff]; simp; omega) | (rw [Bool.eq_iff_iff]; simp at *; omega)
theorem made_no {p : UInt8 → Bool} {l : L} {c : UInt8} (h : c ∈ l) (hc : p c = false) : made p l = false := by
  unfold made
  have : l.all p = false := by
    rw [← Bool.not_eq_true, List.all_eq_true]
    intro h'
    rw [h' c h] at hc; cases hc
  rw [this]; rfl
theorem made_all {p : UInt8 → Bool} {l : L} (h : l.all p = true) : made p l = !(l == []) := by unfold made; rw [h]; rfl
set_option maxHeartbeats 2000000 in
theorem madeA_any (s : ByteArray) (w : World) (hs : s.size ≤ 2000000) :
    Calls Tryd.prog 56 #[.string s, .func (.func 57) #[] #[]] w fun e w' => e = .returned (.bool (made al s.data.toList)) ∧ w' = w := by
  go_enter Tryd.func56, Tryd.ntmps56
  go_wp2_with fail
  go_loop [8] (fun i => ∃ k : Nat, k ≤ s.size ∧ i = .int .i64 k ∧ Hid ((s.data.toList.take k).all al = true)) (fun i => s.size - (intOf i).toNat)
  case atStart => exact ⟨0, by omega, rfl, rfl⟩
  case round =>
    obtain ⟨k, hk, rfl, hno⟩ := hrel
    by_cases hlt : k < s.size
    · have htk : Hid (s.data.toList.take (k + 1) = s.data.toList.take k ++ [s[k]]) := by
        show _ = _
        rw [List.take_add_one, get_list s k hlt]; rfl
      have hmem : Hid (s[k] ∈ s.data.toList) := List.mem_of_getElem? (get_list s k hlt)
      obtain ⟨c, hc⟩ : ∃ c, s[k] = c := ⟨_, rfl⟩
      rw [hc] at htk hmem
      cases hsp : al c
      · have hF : Hid (made al s.data.toList = false) := made_no hmem.out hsp
        go_wp2_with (go_at_call 57; refine (lod_any c _).mono ?_; rintro e w' ⟨rfl, rfl⟩)
        go_ret
        exact ⟨ret_bool (by rw [hF.out]), rfl⟩
      · have hn : Hid ((s.data.toList.take (k + 1)).all al = true) := by
          show _ = _
          rw [htk.out, List.all_append, hno.out]; simp [hsp]
        go_wp2_with (go_at_call 57; refine (lod_any c _).mono ?_; rintro e w' ⟨rfl, rfl⟩)
        exact ⟨⟨k + 1, by omega, by go_num, hn⟩, by simp [intOf]; omega⟩
    · obtain rfl : k = s.size := by omega
      have hT : Hid (made al s.data.toList = !s.toList.isEmpty) := by
        show _ = _
        have := hno.out
        rw [List.take_of_length_le (by rw [size_list]; omega)] at this
        rw [made_all this, Lib.toList_data]; cases s.data.toList <;> rfl
      go_wp2_with fail
      go_ret
      exact ⟨ret_bool (by rw [hT.out]), rfl⟩
set_option maxHeartbeats 2000000 in
theorem madeS_any (s : ByteArray) (w : World) (hs : s.size ≤ 2000000) :
    Calls Tryd.prog 56 #[.string s, .func (.func 73) #[] #[]] w fun e w' => e = .returned (.bool (made sc s.data.toList)) ∧ w' = w := by
  go_enter Tryd.func56, Tryd.ntmps56
  go_wp2_with fail
  go_loop [8] (fun i => ∃ k : Nat, k ≤ s.size ∧ i = .int .i64 k ∧ Hid ((s.data.toList.take k).all sc = true)) (fun i => s.size - (intOf i).toNat)
  case atStart => exact ⟨0, by omega, rfl, rfl⟩
  case round =>
    obtain ⟨k, hk, rfl, hno⟩ := hrel
    by_cases hlt : k < s.size
    · have htk : Hid (s.data.toList.take (k + 1) = s.data.toList.take k ++ [s[k]]) := by
        show _ = _
        rw [List.take_add_one, get_list s k hlt]; rfl
      have hmem : Hid (s[k] ∈ s.data.toList) := List.mem_of_getElem? (get_list s k hlt)
      obtain ⟨c, hc⟩ : ∃ c, s[k] = c := ⟨_, rfl⟩
      rw [hc] at htk hmem
      cases hsp : sc c
      · have hF : Hid (made sc s.data.toList = false) := made_no hmem.out hsp
        go_wp2_with (go_at_call 73; refine (ofs_any c _).mono ?_; rintro e w' ⟨rfl, rfl⟩)
        go_ret
        exact ⟨ret_bool (by rw [hF.out]), rfl⟩
      · have hn : Hid ((s.data.toList.take (k + 1)).all sc = true) := by
          show _ = _
          rw [htk.out, List.all_append, hno.out]; simp [hsp]
        go_wp2_with (go_at_call 73; refine (ofs_any c _).mono ?_; rintro e w' ⟨rfl, rfl⟩)
        exact ⟨⟨k + 1, by omega, by go_num, hn⟩, by simp [intOf]; omega⟩
    · obtain rfl : k = s.size := by omega
      have hT : Hid (made sc s.data.toList = !s.toList.isEmpty) := by
        show _ = _
        have := hno.out
        rw [List.take_of_length_le (by rw [size_list]; omega)] at this
        rw [made_all this, Lib.toList_data]; cases s.data.toList <;> rfl
      go_wp2_with fail
      go_ret
      exact ⟨ret_bool (by rw [hT.out]), rfl⟩
end Go.Proofs.YtiinhfbfciccnaaDoor
/- Contracts of package line's sectionName, parse, isLeftOut. -/
namespace Go.Proofs.YtiinhfbfciccnaaDoor
open Go.RowKit Lin
def snV (o : Option L) : Value := match o with
  | some t => .tuple #[.string ⟨t.toArray⟩, .bool true]
  | none => .tuple #[.string ⟨#[]⟩, .bool false]
theorem snV_of {o : Option L} {T : ByteArray} (h : o = some T.data.toList) : snV o = .tuple #[.string T, .bool true] := by
  rw [h]; show Value.tuple #[.string ⟨T.data.toList.toArray⟩, .bool true] = _; rw [Lib.mk_data]
set_option maxHeartbeats 2000000 in
theorem sectionName_any (s : ByteArray) (w : World) (hs : s.size ≤ 2000000) :
    Calls Tryd.prog 53 #[.string s] w fun e w' => e = .returned (snV (secN s.data.toList)) ∧ w' = w := by
  have hcp := fun w => Tryd.strings_CutPrefix s ⟨#[91]⟩ w
  rw [show (⟨#[91]⟩ : ByteArray).data.toList = [91] from rfl] at hcp
  have hl1 := Lib.trimPrefix_le s.data.toList [91]
  have hl2 := Lib.trimSuffix_le (Lib.trimPrefix s.data.toList [91]) [93]
  have hS : Hid (secN s.data.toList = if Lib.hasPrefix s.data.toList [91] && Lib.hasSuffix (Lib.trimPrefix s.data.toList [91]) [93] && made sc (Lib.trimSuffix (Lib.trimPrefix s.data.toList [91]) [93]) then some (Lib.trimSuffix (Lib.trimPrefix s.data.toList [91]) [93]) else none) := rfl
  obtain ⟨I, hIl, hIz, hIe⟩ := letters (Lib.trimPrefix s.data.toList [91])
  rw [hIe] at hcp
  have hcs := fun w h => Tryd.strings_CutSuffix I ⟨#[93]⟩ w h
  rw [hIl, show (⟨#[93]⟩ : ByteArray).data.toList = [93] from rfl] at hcs
  obtain ⟨N, hNl, hNz, hNe⟩ := letters (Lib.trimSuffix (Lib.trimPrefix s.data.toList [91]) [93])
  rw [hNe] at hcs
  rw [← hNl] at hS
  rw [size_list] at hl1
  have hIs : I.size ≤ 2000000 := by rw [hIz]; omega
  have hNs : N.size ≤ 2000000 := by rw [hNz]; omega
  have hcs1 := fun w => hcs w (by omega)
  clear hcs
  have hmd := fun w => madeS_any N w hNs
  clear hIl hIz hIe hNl hNz hNe hl1 hl2
  cases hp : Lib.hasPrefix s.data.toList [91]
  · rw [hp] at hcp hS
    have hcp' : Hid (∀ w, Calls Tryd.prog 72 #[.string s, .string ⟨#[91]⟩] w fun e w' => e = .returned (.tuple #[.string I, .bool false]) ∧ w' = w) := hcp
    have hcs' : Hid (∀ w, Calls Tryd.prog 49 #[.string I, .string ⟨#[93]⟩] w fun e w' => e = .returned (.tuple #[.string N, .bool (Lib.hasSuffix (Lib.trimPrefix s.data.toList [91]) [93])]) ∧ w' = w) := hcs1
    have hR : Hid (secN s.data.toList = none) := hS.out
    clear hcp hcs1 hmd hS
    go_enter Tryd.func53, Tryd.ntmps53
    go_wp2_with fail
    refine (hcp'.out _).mono ?_
    rintro e w1 ⟨rfl, rfl⟩
    go_wp2_with fail
    refine (hcs'.out _).mono ?_
    rintro e w1 ⟨rfl, rfl⟩
    go_wp2_with fail
    go_ret2
    exact ⟨by rw [hR.out]; rfl, rfl⟩
  · rw [hp] at hcp hS
    have hcp' : Hid (∀ w, Calls Tryd.prog 72 #[.string s, .string ⟨#[91]⟩] w fun e w' => e = .returned (.tuple #[.string I, .bool true]) ∧ w' = w) := hcp
    cases hq : Lib.hasSuffix (Lib.trimPrefix s.data.toList [91]) [93]
    · rw [hq] at hcs1 hS
      have hcs' : Hid (∀ w, Calls Tryd.prog 49 #[.string I, .string ⟨#[93]⟩] w fun e w' => e = .returned (.tuple #[.string N, .bool false]) ∧ w' = w) := hcs1
      have hR : Hid (secN s.data.toList = none) := hS.out
      clear hcp hcs1 hmd hS
      go_enter Tryd.func53, Tryd.ntmps53
      go_wp2_with fail
      refine (hcp'.out _).mono ?_
      rintro e w1 ⟨rfl, rfl⟩
      go_wp2_with fail
      refine (hcs'.out _).mono ?_
      rintro e w1 ⟨rfl, rfl⟩
      go_wp2_with fail
      go_ret2
      exact ⟨by rw [hR.out]; rfl, rfl⟩
    · rw [hq] at hcs1 hS
      have hcs' : Hid (∀ w, Calls Tryd.prog 49 #[.string I, .string ⟨#[93]⟩] w fun e w' => e = .returned (.tuple #[.string N, .bool true]) ∧ w' = w) := hcs1
      cases hm : made sc N.data.toList
      · rw [hm] at hmd hS
        have hmd' : Hid (∀ w, Calls Tryd.prog 56 #[.string N, .func (.func 73) #[] #[]] w fun e w' => e = .returned (.bool false) ∧ w' = w) := hmd
        have hR : Hid (secN s.data.toList = none) := hS.out
        clear hcp hcs1 hmd hS hm
        go_enter Tryd.func53, Tryd.ntmps53
        go_wp2_with fail
        refine (hcp'.out _).mono ?_
        rintro e w1 ⟨rfl, rfl⟩
        go_wp2_with fail
        refine (hcs'.out _).mono ?_
        rintro e w1 ⟨rfl, rfl⟩
        go_wp2_with (go_at_call 56; refine (hmd'.out _).mono ?_; rintro e w' ⟨rfl, rfl⟩)
        go_ret2
        exact ⟨by rw [hR.out]; rfl, rfl⟩
      · rw [hm] at hmd hS
        have hmd' : Hid (∀ w, Calls Tryd.prog 56 #[.string N, .func (.func 73) #[] #[]] w fun e w' => e = .returned (.bool true) ∧ w' = w) := hmd
        have hR : Hid (snV (secN s.data.toList) = .tuple #[.string N, .bool true]) := snV_of hS.out
        clear hcp hcs1 hmd hS hm
        go_enter Tryd.func53, Tryd.ntmps53
        go_wp2_with fail
        refine (hcp'.out _).mono ?_
        rintro e w1 ⟨rfl, rfl⟩
        go_wp2_with fail
        refine (hcs'.out _).mono ?_
        rintro e w1 ⟨rfl, rfl⟩
        go_wp2_with (go_at_call 56; refine (hmd'.out _).mono ?_; rintro e w' ⟨rfl, rfl⟩)
        go_ret2
        exact ⟨by rw [hR.out]; rfl, rfl⟩
set_option maxHeartbeats 2000000 in
theorem isLeftOut_any (s : ByteArray) (w : World) :
    Calls Tryd.prog 48 #[.string s] w fun e w' => e = .returned (.bool (lout s.data.toList)) ∧ Below w.heap.size w w' := by
  have ht := Tryd.trimLeft_any s w
  obtain ⟨T, hTl, hTz, hTe⟩ := letters (trimL s.data.toList)
  have hL : Hid (lout s.data.toList = match T.data.toList with | [] => true | c :: _ => c == 35 || c == 59) := by show _ = _; rw [hTl]; rfl
  have ht' : Hid (Calls Tryd.prog 58 #[.string s, .string ⟨#[32, 9]⟩] w fun e w' => e = .returned (.string T) ∧ Below w.heap.size w w') := by
    rw [← hTe]; exact ht
  clear ht hTl hTz hTe
  cases h0 : (T.toList == [])
  · have hz := size_pos h0
    obtain ⟨R, _, _, hl⟩ := uncons T hz
    obtain ⟨c, hc⟩ : ∃ c, T[0] = c := ⟨_, rfl⟩
    rw [hl, hc] at hL
    clear hl
    have hzI : (0 : Int) < (T.size : Int) := by omega
    have hL' : Hid (lout s.data.toList = (((c.toNat : Int) == 35) || ((c.toNat : Int) == 59))) := by
      show _ = _
      rw [hL.out, Bool.eq_iff_iff]
      simp only [Bool.or_eq_true, beq_iff_eq]
      constructor
      · rintro (h | h) <;> rw [h] <;> simp
      · rintro (h | h)
        · exact .inl (UInt8.toNat_inj.1 (by simp; omega))
        · exact .inr (UInt8.toNat_inj.1 (by simp; omega))
    cases h35 : ((c.toNat : Int) == 35)
    · go_enter Tryd.func48, Tryd.ntmps48
      go_wp2_with fail
      refine ht'.out.mono ?_
      rintro e w1 ⟨rfl, hb⟩
      go_wp2_with fail
      go_ret
      exact ⟨ret_bool (by rw [hL'.out, h35]; rfl), hb⟩
    · go_enter Tryd.func48, Tryd.ntmps48
      go_wp2_with fail
      refine ht'.out.mono ?_
      rintro e w1 ⟨rfl, hb⟩
      go_wp2_with fail
      go_ret
      exact ⟨ret_bool (by rw [hL'.out, h35]; rfl), hb⟩
  · have hR : Hid (lout s.data.toList = true) := by show _ = _; rw [hL.out, size_zero h0]
    go_enter Tryd.func48, Tryd.ntmps48
    go_wp2_with fail
    refine ht'.out.mono ?_
    rintro e w1 ⟨rfl, hb⟩
    go_wp2_with fail
    go_ret
    exact ⟨ret_bool (by rw [hR.out]), hb⟩
end Go.Proofs.YtiinhfbfciccnaaDoor
/- The contract of package line's parse. -/
namespace Go.Proofs.YtiinhfbfciccnaaDoor
open Go.RowKit Lin
/-- What package bytealg keeps: any value. -/
def Mx (w : World) : Prop := ∃ m, w.cell? ⟨0, 0, none⟩ = some (.int .i64 m)
theorem Mx.below {w w' : World} (h : Mx w) (hb : Below w.heap.size w w') : Mx w' := by
  obtain ⟨m, hm⟩ := h
  exact ⟨m, (hb.cell (p := ⟨_, 0, none⟩) (cell_lt hm)).trans hm⟩
theorem cut_le (l : L) (c : L) : (Lib.cut l c).1.length ≤ l.length ∧ (Lib.cut l c).2.1.length ≤ l.length := by
  unfold Lib.cut
  split
  · simp; omega
  · simp
def zeroL : Value := .agg #[.int .i64 0, .string ⟨#[]⟩, .string ⟨#[]⟩, .int .i64 0]
def lnV (p : Kv) (n : Int) : Value := .agg #[.int .i64 p.1, .string ⟨p.2.1.toArray⟩, .string ⟨p.2.2.toArray⟩, .int .i64 n]
def prsV (o : Option Kv) : Value := match o with
  | some p => .tuple #[lnV p 0, .bool true]
  | none => .tuple #[zeroL, .bool false]
theorem prs_sec {s : L} {n : L} (h : secN (trim s) = some n) : prs s = some (1, n, []) := by unfold prs; rw [h]
theorem prs_set {s : L} (h : secN (trim s) = none) : prs s = if (Lib.cut (trim s) [61]).2.2 && made al (trimR (Lib.cut (trim s) [61]).1) then some (2, trimR (Lib.cut (trim s) [61]).1, trimL (Lib.cut (trim s) [61]).2.1) else none := by unfold prs; rw [h]
theorem below_set4 {w W : World} {n b : Nat} (h : Below n w W) (hb : n ≤ b) (v0 v1 v2 v3 : Value) : Below n w ((((W.setCell ⟨b, 0, none⟩ v0).setCell ⟨b, 1, none⟩ v1).setCell ⟨b, 2, none⟩ v2).setCell ⟨b, 3, none⟩ v3) :=
  (((h.setCell (p := ⟨b, 0, none⟩) hb _).setCell (p := ⟨b, 1, none⟩) hb _).setCell (p := ⟨b, 2, none⟩) hb _).setCell (p := ⟨b, 3, none⟩) hb _
/-- The result's four cells. -/
structure Res4 (b : Nat) (W : World) : Prop where
  c0 : W.cell? ⟨b, 0, none⟩ = some (.int .i64 0)
  c1 : W.cell? ⟨b, 1, none⟩ = some (.string ⟨#[]⟩)
  c2 : W.cell? ⟨b, 2, none⟩ = some (.string ⟨#[]⟩)
  c3 : W.cell? ⟨b, 3, none⟩ = some (.int .i64 0)
  f0 : W.frozen? ⟨b, 0, none⟩ = false
  f1 : W.frozen? ⟨b, 1, none⟩ = false
  f2 : W.frozen? ⟨b, 2, none⟩ = false
  f3 : W.frozen? ⟨b, 3, none⟩ = false
theorem Res4.new (w : World) (t : TypeId) : Res4 w.heap.size (w.alloc (.cells #[.int .i64 0, .string ⟨#[]⟩, .string ⟨#[]⟩, .int .i64 0] t)) :=
  ⟨cell_at rfl rfl, cell_at rfl rfl, cell_at rfl rfl, cell_at rfl rfl, World.frozen?_alloc_new w _ _ _, World.frozen?_alloc_new w _ _ _, World.frozen?_alloc_new w _ _ _, World.frozen?_alloc_new w _ _ _⟩
theorem Res4.below {b : Nat} {w w' : World} (h : Res4 b w) (hb : Below w.heap.size w w') : Res4 b w' := by
  have hl : b < w.heap.size := cell_lt h.c0
  exact ⟨(hb.cell (p := ⟨b, 0, none⟩) hl).trans h.c0, (hb.cell (p := ⟨b, 1, none⟩) hl).trans h.c1, (hb.cell (p := ⟨b, 2, none⟩) hl).trans h.c2, (hb.cell (p := ⟨b, 3, none⟩) hl).trans h.c3, (hb.frozen (p := ⟨b, 0, none⟩) hl).trans h.f0, (hb.frozen (p := ⟨b, 1, none⟩) hl).trans h.f1, (hb.frozen (p := ⟨b, 2, none⟩) hl).trans h.f2, (hb.frozen (p := ⟨b, 3, none⟩) hl).trans h.f3⟩
set_option maxHeartbeats 4000000 in
theorem parse_any (s : ByteArray) (w : World) (hg : Mx w) (hs : s.size ≤ 2000000) :
    Calls Tryd.prog 36 #[.string s] w fun e w' => e = .returned (prsV (prs s.data.toList)) ∧ Below w.heap.size w w' := by
  have htr := fun w => Tryd.trim_any s w (by omega)
  have hl := trim_len s.data.toList
  rw [size_list] at hl
  have hp1 := fun n => prs_sec (s := s.data.toList) (n := n)
  have hp2 := prs_set (s := s.data.toList)
  rw [show Lib.trimS s.data.toList [32, 9] = trim s.data.toList from rfl] at htr
  revert htr hl hp1 hp2
  generalize trim s.data.toList = t
  intro htr hl hp1 hp2
  obtain ⟨T, rfl, hTz, hTe⟩ := letters t
  rw [hTe] at htr
  rw [size_list] at hl
  have htr' : Hid (∀ w, Calls Tryd.prog 52 #[.string s, .string ⟨#[32, 9]⟩] w fun e w' => e = .returned (.string T) ∧ Below w.heap.size w w') := htr
  have hsn := fun w => sectionName_any T w (by omega)
  clear htr hTe hTz
  have hr4 := Res4.new w 60
  have hb0 : Below w.heap.size w (w.alloc (.cells #[.int .i64 0, .string ⟨#[]⟩, .string ⟨#[]⟩, .int .i64 0] 60)) := (Below.refl _ _).alloc (Nat.le_refl _) _
  cases hn : secN T.data.toList with
  | some n =>
    have hP : prs s.data.toList = some (1, n, []) := hp1 n hn
    obtain ⟨N, rfl, hNz, hNe⟩ := letters n
    have hV : Hid (prsV (prs s.data.toList) = .tuple #[.agg #[.int .i64 1, .string N, .string ⟨#[]⟩, .int .i64 0], .bool true]) := by
      show _ = _
      rw [hP]
      show Value.tuple #[.agg #[.int .i64 1, .string ⟨N.data.toList.toArray⟩, .string ⟨#[]⟩, .int .i64 0], .bool true] = _
      rw [Lib.mk_data]
    have hsn' : Hid (∀ w, Calls Tryd.prog 53 #[.string T] w fun e w' => e = .returned (.tuple #[.string N, .bool true]) ∧ w' = w) := by
      intro w
      have := hsn w
      rw [snV_of hn] at this
      exact this
    clear hsn hp1 hp2 hP hNz hNe hn
    go_enter Tryd.func36, Tryd.ntmps36
    go_wp2_with fail
    refine (htr'.out _).mono ?_
    rintro e w1 ⟨rfl, hb1⟩
    obtain ⟨q0, q1, q2, q3, f0, f1, f2, f3⟩ := hr4.below hb1
    have hb2 := hb0.trans (hb1.mono hb0.size)
    have hwz := hb2.size
    have hwl := cell_lt q0
    clear hr4 hb0
    go_wp2_with fail
    refine (hsn'.out _).mono ?_
    rintro e w2 ⟨rfl, rfl⟩
    go_wp2_with fail
    refine bodyPost_ret (v := .tuple #[.agg #[.int .i64 1, .string N, .string ⟨#[]⟩, .int .i64 0], .bool true]) (by simp [results, Tryd.results36, go_sem, q0, q1, q2, q3]) rfl ⟨by rw [hV.out], ?_⟩
    exact below_set4 hb2 (Nat.le_refl _) _ _ _ _
  | none =>
    have hP := hp2 hn
    have hsn' : Hid (∀ w, Calls Tryd.prog 53 #[.string T] w fun e w' => e = .returned (.tuple #[.string ⟨#[]⟩, .bool false]) ∧ w' = w) := by
      intro w
      have := hsn w
      rw [hn] at this
      exact this
    have hle := cut_le T.data.toList [61]
    rw [size_list] at hle
    have hCut := fun m w h => Tryd.strings_Cut T ⟨#[61]⟩ m w (by omega) h
    rw [show (⟨#[61]⟩ : ByteArray).data.toList = [61] from rfl] at hCut
    revert hP hle hCut
    generalize Lib.cut T.data.toList [61] = q
    obtain ⟨a, b, f⟩ := q
    intro hP hle hCut
    obtain ⟨A, rfl, hAz, hAe⟩ := letters a
    obtain ⟨B, rfl, hBz, hBe⟩ := letters b
    simp only [hAe, hBe] at hCut
    have hkl := trimR_len A.data.toList
    have htR := fun w => Tryd.trimRight_any A w (by have := hle.1; rw [size_list] at this; omega)
    rw [show Lib.trimRightS A.data.toList [32, 9] = trimR A.data.toList from rfl] at htR
    have htL := fun w => Tryd.trimLeft_any B w
    rw [show Lib.trimLeftS B.data.toList [32, 9] = trimL B.data.toList from rfl] at htL
    simp only [size_list] at hle hkl
    simp only at hP
    revert hkl htR htL hP
    generalize trimR A.data.toList = k
    generalize trimL B.data.toList = v
    intro htR htL hkl hP
    obtain ⟨K, rfl, hKz, hKe⟩ := letters k
    obtain ⟨V, rfl, hVz, hVe⟩ := letters v
    rw [hKe] at htR
    rw [hVe] at htL
    rw [size_list] at hkl
    have hmd := fun w => madeA_any K w (by omega)
    have hCut' : Hid (∀ m w, w.cell? ⟨0, 0, none⟩ = some (.int .i64 m) → Calls Tryd.prog 54 #[.string T, .string ⟨#[61]⟩] w fun e w' => e = .returned (.tuple #[.string A, .string B, .bool f]) ∧ ∃ n, w' = w.drewN n) := hCut
    have htR' : Hid (∀ w, Calls Tryd.prog 55 #[.string A, .string ⟨#[32, 9]⟩] w fun e w' => e = .returned (.string K) ∧ Below w.heap.size w w') := htR
    have htL' : Hid (∀ w, Calls Tryd.prog 58 #[.string B, .string ⟨#[32, 9]⟩] w fun e w' => e = .returned (.string V) ∧ Below w.heap.size w w') := htL
    have hPH : Hid (prs s.data.toList = if f && made al K.data.toList then some (2, K.data.toList, V.data.toList) else none) := hP
    clear hsn hp1 hp2 hP hn hAz hAe hBz hBe hKz hKe hVz hVe hCut htR htL hle
    cases f
    · have hN : Hid (prsV (prs s.data.toList) = .tuple #[zeroL, .bool false]) := by show _ = _; rw [hPH.out]; rfl
      clear hmd
      go_enter Tryd.func36, Tryd.ntmps36
      go_wp2_with fail
      refine (htr'.out _).mono ?_
      rintro e w1 ⟨rfl, hb1⟩
      have hr5 := hr4.below hb1
      have hb2 := hb0.trans (hb1.mono hb0.size)
      obtain ⟨m, hm⟩ := (hg.below hb2 : Mx w1)
      go_wp2_with fail
      refine (hsn'.out _).mono ?_
      rintro e w2 ⟨rfl, rfl⟩
      go_wp2_with fail
      refine (hCut'.out m _ hm).mono ?_
      rintro e w3 ⟨rfl, n, rfl⟩
      go_wp2_with fail
      refine (htR'.out _).mono ?_
      rintro e w4 ⟨rfl, hb4⟩
      obtain ⟨q0, q1, q2, q3, f0, f1, f2, f3⟩ := (hr5.below (below_drewN (Below.refl _ _) n)).below hb4
      have hb5 := (below_drewN hb2 n).trans (hb4.mono (by have := hb2.size; simpa using this))
      have hwz := hb5.size
      have hwl := cell_lt q0
      clear hr4 hr5 hb0 hm
      go_wp2_with fail
      refine bodyPost_ret (v := .tuple #[.agg #[.int .i64 0, .string ⟨#[]⟩, .string ⟨#[]⟩, .int .i64 0], .bool false]) (by simp [results, Tryd.results36, go_sem, q0, q1, q2, q3]) rfl ⟨by rw [hN.out]; rfl, ?_⟩
      exact below_set4 hb5 (Nat.le_refl _) _ _ _ _
    · cases hm : made al K.data.toList
      · rw [hm] at hmd
        have hmd' : Hid (∀ w, Calls Tryd.prog 56 #[.string K, .func (.func 57) #[] #[]] w fun e w' => e = .returned (.bool false) ∧ w' = w) := hmd
        have hN : Hid (prsV (prs s.data.toList) = .tuple #[zeroL, .bool false]) := by show _ = _; rw [hPH.out, hm]; rfl
        clear hmd hm
        go_enter Tryd.func36, Tryd.ntmps36
        go_wp2_with fail
        refine (htr'.out _).mono ?_
        rintro e w1 ⟨rfl, hb1⟩
        have hr5 := hr4.below hb1
        have hb2 := hb0.trans (hb1.mono hb0.size)
        obtain ⟨m, hm⟩ := (hg.below hb2 : Mx w1)
        go_wp2_with fail
        refine (hsn'.out _).mono ?_
        rintro e w2 ⟨rfl, rfl⟩
        go_wp2_with fail
        refine (hCut'.out m _ hm).mono ?_
        rintro e w3 ⟨rfl, n, rfl⟩
        go_wp2_with fail
        refine (htR'.out _).mono ?_
        rintro e w4 ⟨rfl, hb4⟩
        obtain ⟨q0, q1, q2, q3, f0, f1, f2, f3⟩ := (hr5.below (below_drewN (Below.refl _ _) n)).below hb4
        have hb5 := (below_drewN hb2 n).trans (hb4.mono (by have := hb2.size; simpa using this))
        have hwz := hb5.size
        have hwl := cell_lt q0
        clear hr4 hr5 hb0 hm
        go_wp2_with (go_at_call 56; refine (hmd'.out _).mono ?_; rintro e w' ⟨rfl, rfl⟩)
        refine bodyPost_ret (v := .tuple #[.agg #[.int .i64 0, .string ⟨#[]⟩, .string ⟨#[]⟩, .int .i64 0], .bool false]) (by simp [results, Tryd.results36, go_sem, q0, q1, q2, q3]) rfl ⟨by rw [hN.out]; rfl, ?_⟩
        exact below_set4 hb5 (Nat.le_refl _) _ _ _ _
      · rw [hm] at hmd
        have hmd' : Hid (∀ w, Calls Tryd.prog 56 #[.string K, .func (.func 57) #[] #[]] w fun e w' => e = .returned (.bool true) ∧ w' = w) := hmd
        have hN : Hid (prsV (prs s.data.toList) = .tuple #[.agg #[.int .i64 2, .string K, .string V, .int .i64 0], .bool true]) := by
          show _ = _
          rw [hPH.out, hm]
          show Value.tuple #[.agg #[.int .i64 2, .string ⟨K.data.toList.toArray⟩, .string ⟨V.data.toList.toArray⟩, .int .i64 0], .bool true] = _
          rw [Lib.mk_data, Lib.mk_data]
        clear hmd hm
        go_enter Tryd.func36, Tryd.ntmps36
        go_wp2_with fail
        refine (htr'.out _).mono ?_
        rintro e w1 ⟨rfl, hb1⟩
        have hr5 := hr4.below hb1
        have hb2 := hb0.trans (hb1.mono hb0.size)
        obtain ⟨m, hm⟩ := (hg.below hb2 : Mx w1)
        go_wp2_with fail
        refine (hsn'.out _).mono ?_
        rintro e w2 ⟨rfl, rfl⟩
        go_wp2_with fail
        refine (hCut'.out m _ hm).mono ?_
        rintro e w3 ⟨rfl, n, rfl⟩
        go_wp2_with fail
        refine (htR'.out _).mono ?_
        rintro e w4 ⟨rfl, hb4⟩
        have hr6 := (hr5.below (below_drewN (Below.refl _ _) n)).below hb4
        have hb5 := (below_drewN hb2 n).trans (hb4.mono (by have := hb2.size; simpa using this))
        clear hr4 hr5 hb0 hm
        go_wp2_with (go_at_call 56; refine (hmd'.out _).mono ?_; rintro e w' ⟨rfl, rfl⟩)
        refine (htL'.out _).mono ?_
        rintro e w5 ⟨rfl, hb6⟩
        obtain ⟨q0, q1, q2, q3, f0, f1, f2, f3⟩ := hr6.below hb6
        have hb7 := hb5.trans (hb6.mono hb5.size)
        have hwz := hb7.size
        have hwl := cell_lt q0
        clear hr6
        go_wp2_with fail
        refine bodyPost_ret (v := .tuple #[.agg #[.int .i64 2, .string K, .string V, .int .i64 0], .bool true]) (by simp [results, Tryd.results36, go_sem, q0, q1, q2, q3]) rfl ⟨by rw [hN.out], ?_⟩
        exact below_set4 hb7 (Nat.le_refl _) _ _ _ _
end Go.Proofs.YtiinhfbfciccnaaDoor
/- Contracts of strings.IndexRune at a blank and a tab, of strings.IndexAny at these for every text, of package line's blankAt. -/
namespace Go.Proofs.YtiinhfbfciccnaaDoor
open Go.RowKit Lin
abbrev blS : ByteArray := ⟨#[32, 9]⟩
set_option maxHeartbeats 2000000 in
theorem validRune_any (r : Int) (w : World) (h0 : 0 ≤ r) (h1 : r ≤ 1114111) :
    Calls Tryd.prog 93 #[.int .i32 r] w fun e w' => e = .returned (.bool (Utf8.valid r)) ∧ w' = w := by
  have hA : Hid (Utf8.valid r = ((decide (0 ≤ r) && decide (r < 55296)) || (decide (57344 ≤ r) && decide (r ≤ 1114111)))) := rfl
  go_enter Tryd.func93, Tryd.ntmps93
  go_wp2
  all_goals
    go_ret
    refine ⟨ret_bool ?_, rfl⟩
    rw [hA.out]
    first | (simp; omega) | (rw [Bool.eq_iff_iff]; simp; omega) | (rw [Bool.eq_iff_iff]; simp at *; omega)
set_option maxRecDepth 100000 in
set_option maxHeartbeats 4000000 in
theorem indexRune_err (w : World) :
    Calls Tryd.prog 85 #[.string blS, .int .i32 65533] w fun e w' => e = .returned (.int .i64 (-1)) ∧ Below w.heap.size w w' := by
  go_enter Tryd.func85, Tryd.ntmps85
  go_wp2_with fail
  go_loopg [5, 6] 2 (fun g _ _ wx => ∃ i : Nat, i + g = 2 ∧ wx = w.iter blS i)
  case atStart => exact ⟨0, by omega, rfl⟩
  case round =>
    obtain ⟨i, hig, rfl⟩ := hrel
    match i, hig with
    | 0, hig =>
      obtain rfl : gk = 2 := by omega
      have hnx := fun ty => run_next_ascii (P := Tryd.prog) w blS 0 ty (by decide) (by decide)
      go_wp2_with fail
      go_roundg 1
      case measure => omega
      case rel => exact ⟨1, by omega, rfl⟩
    | 1, hig =>
      obtain rfl : gk = 1 := by omega
      have hnx := fun ty => run_next_ascii (P := Tryd.prog) w blS 1 ty (by decide) (by decide)
      go_wp2_with fail
      go_roundg 0
      case measure => omega
      case rel => exact ⟨2, by omega, rfl⟩
    | 2, hig =>
      obtain rfl : gk = 0 := by omega
      have hnx := fun ty => run_next_end (P := Tryd.prog) w blS 2 ty (by decide)
      go_wp2_with fail
      go_ret
      exact ⟨rfl, (Below.refl _ _).alloc (Nat.le_refl _) _⟩
    | n + 3, hig => omega
/-- What a text's bytes beyond ASCII are read as: a rune beyond ASCII, of such bytes alone. -/
theorem decode_facts (s : ByteArray) (pos : Nat) (h : pos < s.size) (hb : 128 ≤ (s.get! pos).toNat) :
    128 ≤ (Utf8.decode s pos).1 ∧ 1 ≤ (Utf8.decode s pos).2 ∧ pos + (Utf8.decode s pos).2 ≤ s.size ∧ ∀ j, j < (Utf8.decode s pos).2 → 128 ≤ (s.get! (pos + j)).toNat := by
  simp only [Utf8.decode, Nat.add_zero]
  have hn : ¬ (s.get! pos).toNat < 128 := by omega
  rw [if_neg hn]
  have hz : ∀ j, j = 0 → 128 ≤ (s.get! (pos + j)).toNat := fun j e => by rw [e]; exact hb
  have one : pos + 1 ≤ s.size ∧ ∀ j, j < 1 → 128 ≤ (s.get! (pos + j)).toNat := ⟨by omega, fun j hj => hz j (by omega)⟩
  split
  · rename_i h1
    simp at h1
    split
    · refine ⟨by assumption, by simp, by simp; omega, fun j hj => ?_⟩
      have hj : j < 2 := hj
      have : j = 0 ∨ j = 1 := by omega
      rcases this with e | rfl
      · exact hz j e
      · omega
    · exact ⟨by simp [Utf8.runeError], by simp, one⟩
  · split
    · rename_i h1
      simp at h1
      split
      · rename_i h2
        simp at h2
        refine ⟨by simp only []; omega, by simp, by simp; omega, fun j hj => ?_⟩
        have hj : j < 3 := hj
        have : j = 0 ∨ j = 1 ∨ j = 2 := by omega
        rcases this with e | rfl | rfl
        · exact hz j e
        · omega
        · omega
      · exact ⟨by simp [Utf8.runeError], by simp, one⟩
    · split
      · rename_i h1
        simp at h1
        split
        · rename_i h2
          simp at h2
          refine ⟨by simp only []; omega, by simp, by simp; omega, fun j hj => ?_⟩
          have hj : j < 4 := hj
          have : j = 0 ∨ j = 1 ∨ j = 2 ∨ j = 3 := by omega
          rcases this with e | rfl | rfl | rfl
          · exact hz j e
          · omega
          · omega
          · omega
        · exact ⟨by simp [Utf8.runeError], by simp, one⟩
      · exact ⟨by simp [Utf8.runeError], by simp, one⟩
set_option maxRecDepth 100000 in
set_option maxHeartbeats 4000000 in
theorem indexRune_far' (S : ByteArray) (r : Int) (w : World) (h2S : 2 ≤ S.size) (hSz : Hid (S.size = 2)) (h9 : (S[1].toNat : Int) < 128) (h0 : 128 ≤ r) (h1 : r ≤ 1114111) (hne : r ≠ 65533) :
    Calls Tryd.prog 85 #[.string S, .int .i32 r] w fun e w' => e = .returned (.int .i64 (-1)) ∧ Below w.heap.size w w' := by
  have hv := fun w => validRune_any r w (by omega) h1
  have g0 : (0 : Int) ≤ r := by omega
  have g1 : decide (r < 128) = false := by simp; omega
  have g2 : (r == 65533) = false := by simpa using hne
  cases hva : Utf8.valid r
  · rw [hva] at hv
    have hv' : Hid (∀ w, Calls Tryd.prog 93 #[.int .i32 r] w fun e w' => e = .returned (.bool false) ∧ w' = w) := hv
    clear hv hva
    go_enter Tryd.func85, Tryd.ntmps85
    go_wp2_with (go_at_call 93; refine (hv'.out _).mono ?_; rintro e w' ⟨rfl, rfl⟩)
    go_ret
    exact ⟨rfl, Below.refl _ _⟩
  · rw [hva] at hv
    have hv' : Hid (∀ w, Calls Tryd.prog 93 #[.int .i32 r] w fun e w' => e = .returned (.bool true) ∧ w' = w) := hv
    obtain ⟨e1, e2, e3⟩ := encode_facts r hva h0
    have hcv := fun w => run_convert_int_string (P := Tryd.prog) w 21 9 .i32 r (by rw [Tryd.underlying21]; rfl) Tryd.underlying9
    revert e1 e2 e3 hcv
    generalize Utf8.encode r = R
    intro e1 e2 e3 hcv
    clear hv hva
    by_cases h2 : R.size = 2
    · have e3' := e3 (by omega)
      have hx : R[R.size - 1]'(by omega) = R[1]'(by omega) := by congr 1; omega
      rw [hx] at e3'
      obtain ⟨d, hd⟩ : ∃ d, R[1] = d := ⟨_, rfl⟩
      rw [hd] at e3'
      obtain ⟨c, hc⟩ : ∃ c, S[1] = c := ⟨_, rfl⟩
      rw [hc] at h9
      have b9 : ((c.toNat : Int) != (d.toNat : Int)) = true := by simp; omega
      have hz : (R.size : Int) = 2 := by omega
      have i1 : (1 : Int) < (S.size : Int) := by omega
      have i2 : (2 : Int) ≤ (S.size : Int) := by omega
      have hE0 : (S.extract 2 S.size).data.toList = [] := by
        rw [Lib.extract_eq, List.drop_of_length_le (by rw [size_list]; exact Nat.le_of_eq hSz.out), List.take_nil]
      obtain ⟨E, hE⟩ : ∃ E, S.extract 2 S.size = E := ⟨_, rfl⟩
      rw [hE] at hE0
      have hib := fun w => indexByte_any E d w
      rw [hE0] at hib
      have hib' : Hid (∀ w, Calls Tryd.prog 92 #[.string E, .int .u8 d.toNat] w fun e w' => e = .returned (.int .i64 (-1)) ∧ w' = w) := hib
      clear hib hE0
      go_enter Tryd.func85, Tryd.ntmps85
      go_wp2_with (go_at_call 93; refine (hv'.out _).mono ?_; rintro e w' ⟨rfl, rfl⟩)
      go_step3
      go_wp2_with fail
      go_loop [9] (fun i => i = .int .i64 1) (fun _ => 0)
      case atStart => rfl
      case round =>
        subst hrel
        have hw2 : IntKind.i64.wrap 2 = 2 := by decide
        go_wp2_with fail
        go_step3
        go_wp2_with fail
        go_quiet (fail)
        go_wp2_with fail
        have hBq := below_drewN (Below.refl w'.heap.size w') nq
        revert hBq
        generalize World.drewN _ nq = W
        intro hBq
        go_quiet (first | (go_at_call 92; exact Calls.quiet_of_same (hib'.out _)))
        go_wp2_with fail
        rw [Exit.noGoto_ret]
        simp only [Exit.inBlock]
        simp +zetaDelta only [Exit.noGoto_ret, Exit.inBlock, Exit.then]
        go_ret
        exact ⟨rfl, below_drewN hBq _⟩
    · obtain ⟨q, hq⟩ : ∃ q : Nat, R.size = q + 3 := ⟨R.size - 3, by omega⟩
      have hz : (R.size : Int) = (q : Int) + 3 := by omega
      have hq1 : q ≤ 1 := by omega
      have i2 : ¬ ((q : Int) + 2 < (S.size : Int)) := by have := hSz.out; omega
      go_enter Tryd.func85, Tryd.ntmps85
      go_wp2_with (go_at_call 93; refine (hv'.out _).mono ?_; rintro e w' ⟨rfl, rfl⟩)
      go_step3
      go_wp2_with fail
      go_loop [9] (fun i => i = .int .i64 ((q : Int) + 2)) (fun _ => 0)
      case atStart => go_num
      case round =>
        subst hrel
        go_wp2_with fail
        go_ret
        exact ⟨rfl, Below.refl _ _⟩
theorem indexRune_far (r : Int) (w : World) (h0 : 128 ≤ r) (h1 : r ≤ 1114111) :
    Calls Tryd.prog 85 #[.string blS, .int .i32 r] w fun e w' => e = .returned (.int .i64 (-1)) ∧ Below w.heap.size w w' := by
  by_cases hne : r = 65533
  · rw [hne]; exact indexRune_err w
  · exact indexRune_far' blS r w (by decide) (by show _ = _; rfl) (by decide) h0 h1 hne
/-- The blanks' place. -/
theorem noAny_jump {s : ByteArray} {i n : Nat} (h : Lib.NoAny s.data.toList [32, 9] i) (hb : ∀ j, j < n → 128 ≤ (s.get! (i + j)).toNat) : Lib.NoAny s.data.toList [32, 9] (i + n) := by
  intro j b hj hjb
  by_cases hji : j < i
  · exact h j b hji hjb
  · have hjl : j < s.size := by have := (List.getElem?_eq_some_iff.1 hjb).1; rwa [size_list] at this
    have := hb (j - i) (by omega)
    rw [show i + (j - i) = j by omega] at this
    have e : s.get! j = b := by
      have h1 := get_list s j hjl
      rw [h1] at hjb
      have h2 : s.get! j = s[j] := by simp [ByteArray.get!, getElem!_pos, hjl]; rfl
      rw [h2]; exact Option.some.inj hjb
    rw [e] at this
    have n1 : b ≠ 32 := fun e => by rw [e] at this; simp at this
    have n2 : b ≠ 9 := fun e => by rw [e] at this; simp at this
    simp [n1, n2]
theorem bat_index (l : L) : Lib.indexAny l [32, 9] = if bat l = l.length then -1 else (bat l : Int) := by
  induction l with
  | nil => rfl
  | cons c r ih =>
    rw [Lib.indexAny]
    cases h : [32, 9].contains c
    · have hb : bat (c :: r) = bat r + 1 := by unfold bat; rw [List.takeWhile_cons, show (!bl c) = true by unfold bl; rw [h]; rfl]; rfl
      have := bat_le r
      rw [hb, ih, List.length_cons]
      by_cases hq : bat r = r.length
      · simp [hq]
      · rw [if_neg hq]
        have : ((bat r : Int) == -1) = false := by simp
        rw [this]
        simp [hq]
    · have hb : bat (c :: r) = 0 := by unfold bat; rw [List.takeWhile_cons, show (!bl c) = false by unfold bl; rw [h]; rfl]; rfl
      rw [hb]
      simp
end Go.Proofs.YtiinhfbfciccnaaDoor
/- Contracts of package line's escaped, cutQuoted, cutWord, skipBlanks. -/
namespace Go.Proofs.YtiinhfbfciccnaaDoor
open Go.RowKit Lin
def esV (o : Option UInt8) : Value := match o with
  | some c => .tuple #[.int .u8 c.toNat, .bool true]
  | none => .tuple #[.int .u8 0, .bool false]
/-- What stands behind a backslash. -/
def esH (l : L) : Option UInt8 := match l with
  | [] => none
  | c :: _ => es1 c
def cqV (o : Option (L × L)) : Value := match o with
  | some p => .tuple #[.string ⟨p.1.toArray⟩, .string ⟨p.2.toArray⟩, .bool true]
  | none => .tuple #[.string ⟨#[]⟩, .string ⟨#[]⟩, .bool false]
def strLen : Value → Nat
  | .string r => r.size
  | _ => 0
theorem cutQ_esc (q : UInt8) (r : L) (hq : q ≠ 92) : cutQ q (92 :: r) = (esH r).bind fun m => (cutQ q (r.drop 1)).map fun p => (m :: p.1, p.2) := by
  cases r with
  | nil => exact cutQ_bs0 q hq
  | cons d t => exact cutQ_bs q d t hq
theorem mapp (X : L) (c : UInt8) (o : Option (L × L)) : (o.map fun p => (c :: p.1, p.2)).map (fun p => (X ++ p.1, p.2)) = o.map fun p => ((X ++ [c]) ++ p.1, p.2) := by
  cases o <;> simp
end Go.Proofs.YtiinhfbfciccnaaDoor
/- Contracts of package line's cutWord, Split, Quote. -/
namespace Go.Proofs.YtiinhfbfciccnaaDoor
open Go.RowKit Lin
theorem cqV_of {o : Option (L × L)} {A B : ByteArray} (h : o = some (A.data.toList, B.data.toList)) : cqV o = .tuple #[.string A, .string B, .bool true] := by
  rw [h]
  show Value.tuple #[.string ⟨A.data.toList.toArray⟩, .string ⟨B.data.toList.toArray⟩, .bool true] = _
  rw [Lib.mk_data, Lib.mk_data]
theorem beq8 (c d : UInt8) (h : c ≠ d) : ((c.toNat : Int) == (d.toNat : Int)) = false := by
  have : ¬ (c.toNat : Int) = (d.toNat : Int) := fun e => h (UInt8.toNat_inj.1 (by omega))
  simpa using this
def strs (l : List L) : List Value := l.map fun x => .string ⟨x.toArray⟩
/-- What Split tells. -/
def SplitP (o : Option (List L)) (w : World) (e : Ending) (w' : World) : Prop := match o with
  | none => e = .returned (.tuple #[.slice none 0 0, .int .i64 50]) ∧ Below w.heap.size w w'
  | some l => ∃ v, e = .returned (.tuple #[v, .int .i64 0]) ∧ w'.ownsRow w.heap.size 9 1 v l.length (strs l) ∧ Below w.heap.size w w'
theorem infoS : (Tryd.prog.info? 9).map (fun i => (i.zero, i.size, i.bytes)) = some (some (.string ⟨#[]⟩), 1, 16) := by kernel_rfl
theorem quo_snoc (l : L) (c : UInt8) : (l ++ [c]).flatMap q1 = l.flatMap q1 ++ q1 c := by simp
theorem q1_len (c : UInt8) : (q1 c).length ≤ 2 := by unfold q1; split; simp; split <;> simp
theorem quo_len : ∀ l : L, (l.flatMap q1).length ≤ 2 * l.length
  | [] => by simp
  | c :: r => by have := quo_len r; have := q1_len c; rw [List.flatMap_cons, List.length_append, List.length_cons]; omega
theorem strCells_two : Lib.strCells ⟨#[92, 110]⟩ = [.int .u8 92, .int .u8 110] := rfl
end Go.Proofs.YtiinhfbfciccnaaDoor
