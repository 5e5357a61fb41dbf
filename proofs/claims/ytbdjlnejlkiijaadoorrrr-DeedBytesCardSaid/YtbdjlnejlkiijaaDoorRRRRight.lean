/-
  The document's own turns (tollhouseref03.right, function 31) and its words off a text in base sixteen (at, function 24): what they answer; nothing is written.
-/
import Derived.Test.YtbdjlnejlkiijaaDoorRRRMem
namespace Go.Proofs.YtbdjlnejlkiijaaDoorRRR
open Go.RowKit
set_option linter.unusedVariables false

theorem pow_le (k : Nat) (hk : k ≤ 32) : 0 < 2 ^ k ∧ 2 ^ k ≤ 4294967296 := ⟨Nat.pow_pos (by omega), by
  have := Nat.pow_le_pow_right (n := 2) (by omega) hk
  exact this⟩

theorem ret_u64 {a b : Int} (h : a = b) : Ending.returned (.int .u64 a) = .returned (.int .u64 b) := by rw [h]
theorem u64_in (n : Nat) (h : n < 18446744073709551616) : IntKind.u64.wrap (n : Int) = (n : Int) := IntWalk.u64_in _ (by omega)
theorem rot_parts (k x : Nat) (hk : k ≤ 32) (hx : x < 4294967296) : x / 2 ^ k + x % 2 ^ k * (4294967296 / 2 ^ k) = rotr k x := by
  have e : (4294967296 : Nat) / 2 ^ k = 2 ^ (32 - k) := by
    rw [show (4294967296 : Nat) = 2 ^ 32 from rfl]
    exact Nat.pow_div hk (by omega)
  rw [e]
  rfl

/-- A word turned, or pushed, to the right. -/
def turned (round : Bool) (n x : Nat) : Nat := if round = true then rotr n x else x / 2 ^ n
theorem turned_true (n x : Nat) : turned true n x = rotr n x := rfl
theorem turned_false (n x : Nat) : turned false n x = x / 2 ^ n := rfl

set_option maxRecDepth 100000 in
theorem right_any (x n : Nat) (round : Bool) (w : World) (hx : x < 4294967296) (hn : n ≤ 32) :
    Calls Tryd.prog 66 #[.int .u64 (x : Int), .int .i64 (n : Int), .bool round] w fun e w' => e = .returned (.int .u64 ((turned round n x : Nat) : Int)) ∧ ∃ q, w' = w.drewN q := by
  go_enter Tryd.func66, Tryd.ntmps66
  go_wp2_with fail
  go_loop [7, 8] (fun p i => ∃ (k q : Nat), k ≤ n ∧ i = .int .i64 k ∧ p = .int .u64 q ∧ Hid (2 ^ k = q)) (fun _ i => n - (intOf i).toNat)
  case atStart => exact ⟨0, 1, Nat.zero_le _, rfl, rfl, Lib.hid rfl⟩
  case round =>
    obtain ⟨k, q, hk, rfl, rfl, HQ⟩ := hrel
    have hq := pow_le k (by omega)
    rw [HQ.out] at hq
    obtain ⟨hq1, hq2⟩ := hq
    by_cases hlt : k < n
    · have HQ2 : Hid (2 ^ (k + 1) = q * 2) := Lib.hid (by rw [Nat.pow_succ, HQ.out])
      go_wp2
      go_round
      case rel => exact ⟨k + 1, q * 2, by omega, by go_num, by go_num, HQ2⟩
      case measure => simp [intOf]; omega
    · obtain rfl : k = n := by omega
      obtain ⟨q1, e1⟩ : ∃ y, x / q = y := ⟨_, rfl⟩
      obtain ⟨q2, e2⟩ : ∃ y, x % q = y := ⟨_, rfl⟩
      obtain ⟨q3, e3⟩ : ∃ y, 4294967296 / q = y := ⟨_, rfl⟩
      have f1 : (x : Int).tdiv (q : Int) = (q1 : Int) := by rw [← e1]; exact Int.ofNat_tdiv x q
      have f2 : (x : Int).tmod (q : Int) = (q2 : Int) := by rw [← e2]; exact Int.ofNat_tmod x q
      have f3 : (4294967296 : Int).tdiv (q : Int) = (q3 : Int) := by rw [← e3]; exact Int.ofNat_tdiv 4294967296 q
      have f4 : (x : Int) / (q : Int) = (q1 : Int) := by rw [← e1]; simp
      have hp : ((q : Int) == 0) = false := by simp; omega
      have hp2 : ¬ (q : Int) = 0 := by omega
      cases round
      · have HE : Hid (IntKind.u64.wrap (q1 : Int) = ((turned false k x : Nat) : Int)) := Lib.hid (by rw [turned_false, HQ.out, e1]; exact u64_in q1 (by rw [← e1]; have := Nat.div_le_self x q; omega))
        clear e1 e2 e3
        go_wp2
        go_ret
        exact ⟨ret_u64 HE.out, 0, rfl⟩
      · have hrl := rotr_lt k x hn hx
        have hrp := rot_parts k x hn hx
        rw [HQ.out, e1, e2, e3] at hrp
        have b1 : q1 ≤ x := by rw [← e1]; exact Nat.div_le_self _ _
        have b3 : q3 ≤ 4294967296 := by rw [← e3]; exact Nat.div_le_self _ _
        have HE : Hid (IntKind.u64.wrap ((q1 : Int) + IntKind.u64.wrap ((q2 : Int) * (q3 : Int))) = ((turned true k x : Nat) : Int)) := Lib.hid (by
          rw [turned_true]
          have m1 : (q2 : Int) * (q3 : Int) = ((q2 * q3 : Nat) : Int) := by simp
          rw [m1, u64_in (q2 * q3) (by omega)]
          have m2 : (q1 : Int) + ((q2 * q3 : Nat) : Int) = ((q1 + q2 * q3 : Nat) : Int) := by simp
          rw [m2, u64_in (q1 + q2 * q3) (by omega), hrp])
        clear e1 e2 e3 hrp hrl
        go_wp2_with fail
        go_quiet (fail)
        go_wp2
        go_ret
        exact ⟨ret_u64 HE.out, _, rfl⟩

/-- A letter of base sixteen. -/
def dig (c : Nat) : Nat := if 97 ≤ c then c - 87 else c - 48
def okLetter (c : Nat) : Bool := (48 ≤ c && c ≤ 57) || (97 ≤ c && c ≤ 102)
def hexFold : List Nat → Nat → Nat
  | [], n => n
  | c :: r, n => hexFold r (n * 16 + dig c)
theorem hexFold_snoc (l : List Nat) (c n : Nat) : hexFold (l ++ [c]) n = hexFold l n * 16 + dig c := by
  induction l generalizing n with
  | nil => rfl
  | cons a r ih => exact ih _
/-- The word of a number in a text of base sixteen. -/
def hexAt (l : List Nat) (i : Nat) : Nat := hexFold ((l.drop (8 * i)).take 8) 0
def letters (s : ByteArray) : List Nat := s.data.toList.map (·.toNat)
theorem dig_lt (c : Nat) (h : okLetter c = true) : dig c < 16 := by
  simp [okLetter] at h
  unfold dig
  split <;> omega
theorem hexFold_lt (l : List Nat) (h : ∀ c ∈ l, okLetter c = true) : hexFold l 0 < 16 ^ l.length := by
  have aux : ∀ (l : List Nat) (n m : Nat), (∀ c ∈ l, okLetter c = true) → n < 16 ^ m → hexFold l n < 16 ^ (m + l.length) := by
    intro l
    induction l with
    | nil => intro n m _ hn; simpa [hexFold] using hn
    | cons c r ih =>
      intro n m hc hn
      have hd := dig_lt c (hc c (by simp))
      have h1 : n * 16 + dig c < 16 ^ (m + 1) := by rw [Nat.pow_succ]; omega
      have h2 := ih (n * 16 + dig c) (m + 1) (fun c hc' => hc c (by simp [hc'])) h1
      rw [hexFold, List.length_cons, show m + (r.length + 1) = m + 1 + r.length by omega]
      exact h2
  have := aux l 0 0 h (by simp)
  simpa using this

theorem wrap_64 (n : Int) : IntKind.u64.wrap n = n % 18446744073709551616 := by simp [IntKind.wrap, IntKind.bits, IntKind.signed]
theorem val_u64 {a b : Int} (h : a = b) : Value.int .u64 a = .int .u64 b := by rw [h]
theorem letters_get (s : ByteArray) (j : Nat) (h : j < s.size) : (letters s)[j]? = some (s[j].toNat) := by
  have h2 : j < s.data.size := h
  have h3 : s.data.toList[j]? = some (s.data[j]) := by simp
  unfold letters
  rw [List.getElem?_map, h3]
  rfl
theorem hex_take (s : ByteArray) (i k : Nat) (h : 8 * i + k < s.size) : ((letters s).drop (8 * i)).take (k + 1) = ((letters s).drop (8 * i)).take k ++ [s[8 * i + k].toNat] := by
  have hl : k < ((letters s).drop (8 * i)).length := by
    have : (letters s).length = s.size := by simp [letters]
    rw [List.length_drop, this]
    omega
  rw [List.take_succ_eq_append_getElem hl]
  congr 2
  have h3 := letters_get s (8 * i + k) h
  rw [List.getElem_drop]
  have h4 := List.getElem?_eq_some_iff.1 h3
  exact h4.2

set_option maxRecDepth 100000 in
set_option maxHeartbeats 1000000 in
theorem at_any (s : ByteArray) (i len : Nat) (w : World) (HS : Hid (s.size = 8 * len)) (HL : Hid (∀ c ∈ letters s, okLetter c = true)) (hi : i < len) (hl : len ≤ 1000) :
    Calls Tryd.prog 52 #[.string s, .int .i64 (i : Int)] w fun e w' => e = .returned (.int .u64 ((hexAt (letters s) i : Nat) : Int)) ∧ w = w' := by
  have i1 : (i : Int) < 1000 := by omega
  go_enter Tryd.func52, Tryd.ntmps52
  go_wp2_with fail
  go_loop [6, 5, 7] (fun t n _ => ∃ (k v : Nat), k ≤ 8 ∧ t = .int .i64 (8 * (i : Int) + (k : Int)) ∧ n = .int .u64 v ∧ v < 4294967296 ∧ Hid (hexFold (((letters s).drop (8 * i)).take k) 0 = v)) (fun t _ _ => 8 * i + 8 - (intOf t).toNat)
  case atStart => exact ⟨0, 0, Nat.zero_le _, by simp, rfl, by omega, Lib.hid rfl⟩
  case round =>
    obtain ⟨k, v, hk, rfl, rfl, hv, HV⟩ := hrel
    by_cases hlt : k < 8
    · have hin : 8 * i + k < s.size := by rw [HS.out]; omega
      have HT := Lib.hid (hex_take s i k hin)
      have hok : okLetter (s[8 * i + k].toNat) = true := HL.out _ (List.mem_of_getElem? (letters_get s (8 * i + k) hin))
      have hlen : (((letters s).drop (8 * i)).take (k + 1)).length ≤ 8 := by rw [List.length_take]; omega
      have hv2 : hexFold (((letters s).drop (8 * i)).take (k + 1)) 0 < 4294967296 := by
        have h1 := hexFold_lt (((letters s).drop (8 * i)).take (k + 1)) (fun c hc => HL.out c (List.mem_of_mem_drop (List.mem_of_mem_take hc)))
        have h2 := Nat.pow_le_pow_right (n := 16) (by omega) hlen
        have h3 : (16 : Nat) ^ 8 = 4294967296 := rfl
        omega
      rw [HT.out, hexFold_snoc, HV.out] at hv2
      have HV2 : Hid (hexFold (((letters s).drop (8 * i)).take (k + 1)) 0 = v * 16 + dig (s[8 * i + k].toNat)) := Lib.hid (by rw [HT.out, hexFold_snoc, HV.out])
      have hcases : (48 ≤ s[8 * i + k].toNat ∧ s[8 * i + k].toNat ≤ 57) ∨ (97 ≤ s[8 * i + k].toNat ∧ s[8 * i + k].toNat ≤ 102) := by simpa [okLetter] using hok
      obtain ⟨cv, hcv⟩ : ∃ cv, s[8 * i + k].toNat = cv := ⟨_, rfl⟩
      rw [hcv] at hcases HV2 hv2
      have HCV := Lib.hid hcv
      have HCS := Lib.hid hcases
      clear hok hlen hcv hcases
      have hcw : IntKind.u64.wrap ((s[8 * i + k].toNat : Nat) : Int) = (cv : Int) := by rw [HCV.out]; rcases HCS.out with h | h <;> exact u64_in cv (by omega)
      rcases HCS.out with ⟨c1, c2⟩ | ⟨c1, c2⟩
      · have j1 : (cv : Int) < 97 := by omega
        go_wp2
        go_round
        case rel => exact ⟨k + 1, _, by omega, by congr 1, val_u64 (by rw [dig, if_neg (by omega)]; omega), hv2, HV2⟩
        case measure => simp [intOf]; omega
      · have j1 : (97 : Int) ≤ (cv : Int) := by omega
        go_wp2
        go_round
        case rel => exact ⟨k + 1, _, by omega, by congr 1, val_u64 (by rw [dig, if_pos c1]; omega), hv2, HV2⟩
        case measure => simp [intOf]; omega
    · obtain rfl : k = 8 := by omega
      go_wp2
      go_ret
      exact ⟨ret_u64 (by rw [hexAt, HV.out]), rfl⟩
end Go.Proofs.YtbdjlnejlkiijaaDoorRRR
