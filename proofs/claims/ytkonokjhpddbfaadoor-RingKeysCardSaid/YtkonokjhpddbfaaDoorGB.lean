/-
  The document's own turns (tollhouseref03.right, function 31) and its words off a text in base sixteen (at, function 24): what they answer; nothing is written.
  Rows of words that a call itself made (slices of uint64), and what is laid behind them.
  What the document's block is made of: places of rows, words by sums and turns, the eight words gone round.
  The document's block (tollhouseref03.Tables.block, function 25): the words behind one block more; nothing that was there is written.
  Numbers of the document's sum: a number's last bytes, the sum's bytes off the words, the padding, what the texts in base sixteen say.
  The document's sum (tollhouseref03.Tables.Of, function 12): the standard's sum of the bytes; nothing that was there is written.
  tollhouseref03.Text (function 20): what is summed for a domain of parts is the text as the program sums it; nothing that was there is written.
  The document's For (function 17) and Lock (function 19), the program's Lock (function 18): the sum of the document's text; nothing that was there is written.
  tollhouseref03.Make (function 11): the standard's tables as texts; tollhouselaw03.MillSums (function 3): the sum of any bytes is the document's.
-/
import Derived.Test.YtkonokjhpddbfaaDoorGA
import Derived.Deep.RegionHeld3
import Derived.Deep.AppendLies
import Derived.Deep.Cut
import Derived.BigRegion
import Derived.StillTailTactics
import Derived.Deep.OwnRows
import Derived.Laws.IdiomStrings
namespace Go.Proofs.YtkonokjhpddbfaaDoor
open Go.RowKit
set_option linter.unusedVariables false

theorem pow_le (k : Nat) (hk : k ≤ 32) : 0 < 2 ^ k ∧ 2 ^ k ≤ 4294967296 := ⟨Nat.pow_pos (by omega), by
  have := Nat.pow_le_pow_right (n := 2) (by omega) hk
  exact this⟩

theorem ret_u64 {a b : Int} (h : a = b) : Ending.returned (.int .u64 a) = .returned (.int .u64 b) := by rw [h]
theorem u64_in (n : Nat) (h : n < 18446744073709551616) : IntKind.u64.wrap (n : Int) = (n : Int) := IntWalk.u64_in _ (by omega)
theorem rot_parts (k x : Nat) (hk : k ≤ 32) (hx : x < 4294967296) : x / 2 ^ k + x % 2 ^ k * (4294967296 / 2 ^ k) = rotr k x := by
  have e : (4294967296 : Nat) / 2 ^ k = 2 ^ (32 - k) := by
    rw [show (4294967296 : Nat) = 2 ^ 32 from rfl]
    exact Nat.pow_div hk (by omega)
  rw [e]
  rfl

/-- A word turned, or pushed, to the right. -/
def turned (round : Bool) (n x : Nat) : Nat := if round = true then rotr n x else x / 2 ^ n
theorem turned_true (n x : Nat) : turned true n x = rotr n x := rfl
theorem turned_false (n x : Nat) : turned false n x = x / 2 ^ n := rfl

set_option maxRecDepth 100000 in
theorem right_any (x n : Nat) (round : Bool) (w : World) (hx : x < 4294967296) (hn : n ≤ 32) :
    Calls Tryd.prog 108 #[.int .u64 (x : Int), .int .i64 (n : Int), .bool round] w fun e w' => e = .returned (.int .u64 ((turned round n x : Nat) : Int)) ∧ ∃ q, w' = w.drewN q := by
  go_enter Tryd.func108, Tryd.ntmps108
  go_wp2_with fail
  go_loop [7, 8] (fun p i => ∃ (k q : Nat), k ≤ n ∧ i = .int .i64 k ∧ p = .int .u64 q ∧ Hid (2 ^ k = q)) (fun _ i => n - (intOf i).toNat)
  case atStart => exact ⟨0, 1, Nat.zero_le _, rfl, rfl, Lib.hid rfl⟩
  case round =>
    obtain ⟨k, q, hk, rfl, rfl, HQ⟩ := hrel
    have hq := pow_le k (by omega)
    rw [HQ.out] at hq
    obtain ⟨hq1, hq2⟩ := hq
    by_cases hlt : k < n
    · have HQ2 : Hid (2 ^ (k + 1) = q * 2) := Lib.hid (by rw [Nat.pow_succ, HQ.out])
      go_wp2
      go_round
      case rel => exact ⟨k + 1, q * 2, by omega, by go_num, by go_num, HQ2⟩
      case measure => simp [intOf]; omega
    · obtain rfl : k = n := by omega
      obtain ⟨q1, e1⟩ : ∃ y, x / q = y := ⟨_, rfl⟩
      obtain ⟨q2, e2⟩ : ∃ y, x % q = y := ⟨_, rfl⟩
      obtain ⟨q3, e3⟩ : ∃ y, 4294967296 / q = y := ⟨_, rfl⟩
      have f1 : (x : Int).tdiv (q : Int) = (q1 : Int) := by rw [← e1]; exact Int.ofNat_tdiv x q
      have f2 : (x : Int).tmod (q : Int) = (q2 : Int) := by rw [← e2]; exact Int.ofNat_tmod x q
      have f3 : (4294967296 : Int).tdiv (q : Int) = (q3 : Int) := by rw [← e3]; exact Int.ofNat_tdiv 4294967296 q
      have f4 : (x : Int) / (q : Int) = (q1 : Int) := by rw [← e1]; simp
      have hp : ((q : Int) == 0) = false := by simp; omega
      have hp2 : ¬ (q : Int) = 0 := by omega
      cases round
      · have HE : Hid (IntKind.u64.wrap (q1 : Int) = ((turned false k x : Nat) : Int)) := Lib.hid (by rw [turned_false, HQ.out, e1]; exact u64_in q1 (by rw [← e1]; have := Nat.div_le_self x q; omega))
        clear e1 e2 e3
        go_wp2
        go_ret
        exact ⟨ret_u64 HE.out, 0, rfl⟩
      · have hrl := rotr_lt k x hn hx
        have hrp := rot_parts k x hn hx
        rw [HQ.out, e1, e2, e3] at hrp
        have b1 : q1 ≤ x := by rw [← e1]; exact Nat.div_le_self _ _
        have b3 : q3 ≤ 4294967296 := by rw [← e3]; exact Nat.div_le_self _ _
        have HE : Hid (IntKind.u64.wrap ((q1 : Int) + IntKind.u64.wrap ((q2 : Int) * (q3 : Int))) = ((turned true k x : Nat) : Int)) := Lib.hid (by
          rw [turned_true]
          have m1 : (q2 : Int) * (q3 : Int) = ((q2 * q3 : Nat) : Int) := by simp
          rw [m1, u64_in (q2 * q3) (by omega)]
          have m2 : (q1 : Int) + ((q2 * q3 : Nat) : Int) = ((q1 + q2 * q3 : Nat) : Int) := by simp
          rw [m2, u64_in (q1 + q2 * q3) (by omega), hrp])
        clear e1 e2 e3 hrp hrl
        go_wp2_with fail
        go_quiet (fail)
        go_wp2
        go_ret
        exact ⟨ret_u64 HE.out, _, rfl⟩

/-- A letter of base sixteen. -/
def dig (c : Nat) : Nat := if 97 ≤ c then c - 87 else c - 48
def okLetter (c : Nat) : Bool := (48 ≤ c && c ≤ 57) || (97 ≤ c && c ≤ 102)
def hexFold : List Nat → Nat → Nat
  | [], n => n
  | c :: r, n => hexFold r (n * 16 + dig c)
theorem hexFold_snoc (l : List Nat) (c n : Nat) : hexFold (l ++ [c]) n = hexFold l n * 16 + dig c := by
  induction l generalizing n with
  | nil => rfl
  | cons a r ih => exact ih _
/-- The word of a number in a text of base sixteen. -/
def hexAt (l : List Nat) (i : Nat) : Nat := hexFold ((l.drop (8 * i)).take 8) 0
def letters (s : ByteArray) : List Nat := s.data.toList.map (·.toNat)
theorem dig_lt (c : Nat) (h : okLetter c = true) : dig c < 16 := by
  simp [okLetter] at h
  unfold dig
  split <;> omega
theorem hexFold_lt (l : List Nat) (h : ∀ c ∈ l, okLetter c = true) : hexFold l 0 < 16 ^ l.length := by
  have aux : ∀ (l : List Nat) (n m : Nat), (∀ c ∈ l, okLetter c = true) → n < 16 ^ m → hexFold l n < 16 ^ (m + l.length) := by
    intro l
    induction l with
    | nil => intro n m _ hn; simpa [hexFold] using hn
    | cons c r ih =>
      intro n m hc hn
      have hd := dig_lt c (hc c (by simp))
      have h1 : n * 16 + dig c < 16 ^ (m + 1) := by rw [Nat.pow_succ]; omega
      have h2 := ih (n * 16 + dig c) (m + 1) (fun c hc' => hc c (by simp [hc'])) h1
      rw [hexFold, List.length_cons, show m + (r.length + 1) = m + 1 + r.length by omega]
      exact h2
  have := aux l 0 0 h (by simp)
  simpa using this

theorem wrap_64 (n : Int) : IntKind.u64.wrap n = n % 18446744073709551616 := by simp [IntKind.wrap, IntKind.bits, IntKind.signed]
theorem val_u64 {a b : Int} (h : a = b) : Value.int .u64 a = .int .u64 b := by rw [h]
theorem letters_get (s : ByteArray) (j : Nat) (h : j < s.size) : (letters s)[j]? = some (s[j].toNat) := by
  have h2 : j < s.data.size := h
  have h3 : s.data.toList[j]? = some (s.data[j]) := by simp
  unfold letters
  rw [List.getElem?_map, h3]
  rfl
theorem hex_take (s : ByteArray) (i k : Nat) (h : 8 * i + k < s.size) : ((letters s).drop (8 * i)).take (k + 1) = ((letters s).drop (8 * i)).take k ++ [s[8 * i + k].toNat] := by
  have hl : k < ((letters s).drop (8 * i)).length := by
    have : (letters s).length = s.size := by simp [letters]
    rw [List.length_drop, this]
    omega
  rw [List.take_succ_eq_append_getElem hl]
  congr 2
  have h3 := letters_get s (8 * i + k) h
  rw [List.getElem_drop]
  have h4 := List.getElem?_eq_some_iff.1 h3
  exact h4.2

set_option maxRecDepth 100000 in
set_option maxHeartbeats 1000000 in
theorem at_any (s : ByteArray) (i len : Nat) (w : World) (HS : Hid (s.size = 8 * len)) (HL : Hid (∀ c ∈ letters s, okLetter c = true)) (hi : i < len) (hl : len ≤ 1000) :
    Calls Tryd.prog 99 #[.string s, .int .i64 (i : Int)] w fun e w' => e = .returned (.int .u64 ((hexAt (letters s) i : Nat) : Int)) ∧ w = w' := by
  have i1 : (i : Int) < 1000 := by omega
  go_enter Tryd.func99, Tryd.ntmps99
  go_wp2_with fail
  go_loop [6, 5, 7] (fun t n _ => ∃ (k v : Nat), k ≤ 8 ∧ t = .int .i64 (8 * (i : Int) + (k : Int)) ∧ n = .int .u64 v ∧ v < 4294967296 ∧ Hid (hexFold (((letters s).drop (8 * i)).take k) 0 = v)) (fun t _ _ => 8 * i + 8 - (intOf t).toNat)
  case atStart => exact ⟨0, 0, Nat.zero_le _, by simp, rfl, by omega, Lib.hid rfl⟩
  case round =>
    obtain ⟨k, v, hk, rfl, rfl, hv, HV⟩ := hrel
    by_cases hlt : k < 8
    · have hin : 8 * i + k < s.size := by rw [HS.out]; omega
      have HT := Lib.hid (hex_take s i k hin)
      have hok : okLetter (s[8 * i + k].toNat) = true := HL.out _ (List.mem_of_getElem? (letters_get s (8 * i + k) hin))
      have hlen : (((letters s).drop (8 * i)).take (k + 1)).length ≤ 8 := by rw [List.length_take]; omega
      have hv2 : hexFold (((letters s).drop (8 * i)).take (k + 1)) 0 < 4294967296 := by
        have h1 := hexFold_lt (((letters s).drop (8 * i)).take (k + 1)) (fun c hc => HL.out c (List.mem_of_mem_drop (List.mem_of_mem_take hc)))
        have h2 := Nat.pow_le_pow_right (n := 16) (by omega) hlen
        have h3 : (16 : Nat) ^ 8 = 4294967296 := rfl
        omega
      rw [HT.out, hexFold_snoc, HV.out] at hv2
      have HV2 : Hid (hexFold (((letters s).drop (8 * i)).take (k + 1)) 0 = v * 16 + dig (s[8 * i + k].toNat)) := Lib.hid (by rw [HT.out, hexFold_snoc, HV.out])
      have hcases : (48 ≤ s[8 * i + k].toNat ∧ s[8 * i + k].toNat ≤ 57) ∨ (97 ≤ s[8 * i + k].toNat ∧ s[8 * i + k].toNat ≤ 102) := by simpa [okLetter] using hok
      obtain ⟨cv, hcv⟩ : ∃ cv, s[8 * i + k].toNat = cv := ⟨_, rfl⟩
      rw [hcv] at hcases HV2 hv2
      have HCV := Lib.hid hcv
      have HCS := Lib.hid hcases
      clear hok hlen hcv hcases
      have hcw : IntKind.u64.wrap ((s[8 * i + k].toNat : Nat) : Int) = (cv : Int) := by rw [HCV.out]; rcases HCS.out with h | h <;> exact u64_in cv (by omega)
      rcases HCS.out with ⟨c1, c2⟩ | ⟨c1, c2⟩
      · have j1 : (cv : Int) < 97 := by omega
        go_wp2
        go_round
        case rel => exact ⟨k + 1, _, by omega, by congr 1, val_u64 (by rw [dig, if_neg (by omega)]; omega), hv2, HV2⟩
        case measure => simp [intOf]; omega
      · have j1 : (97 : Int) ≤ (cv : Int) := by omega
        go_wp2
        go_round
        case rel => exact ⟨k + 1, _, by omega, by congr 1, val_u64 (by rw [dig, if_pos c1]; omega), hv2, HV2⟩
        case measure => simp [intOf]; omega
    · obtain rfl : k = 8 := by omega
      go_wp2
      go_ret
      exact ⟨ret_u64 (by rw [hexAt, HV.out]), rfl⟩
end Go.Proofs.YtkonokjhpddbfaaDoor
namespace Go.Proofs.YtkonokjhpddbfaaDoor
open Go.RowKit
set_option linter.unusedVariables false

def w64 (l : List Nat) : List Value := l.map fun (x : Nat) => Value.int .u64 (x : Int)
theorem w64_length (l : List Nat) : (w64 l).length = l.length := by simp [w64]
theorem w64_one (l : List Nat) : ∀ v ∈ w64 l, v.oneCell' = true := by intro v hv; obtain ⟨n, _, rfl⟩ := List.mem_map.1 hv; rfl
theorem w64_get (l : List Nat) (i : Nat) (h : i < l.length) : (w64 l)[i]? = some (.int .u64 ((l.getD i 0 : Nat) : Int)) := by simp [w64, List.getD, h]
theorem w64_set (l : List Nat) (k x : Nat) : w64 (l.set k x) = (w64 l).set k (.int .u64 (x : Int)) := by simp [w64, List.map_set]
theorem info57 : (Tryd.prog.info? 91).map (fun i => (i.zero, i.size, i.bytes)) = some (some (.int .u64 0), 1, 8) := by kernel_rfl

/-- A slice of words that the call itself made. -/
def Own64 (w : World) (base : Nat) (v : Value) (l : List Nat) : Prop := w.ownsRow base 91 1 v l.length (w64 l)
theorem Own64.nil (w : World) (base : Nat) : Own64 w base (.slice none 0 0) [] := World.ownsRow_nil w base 91 1
theorem Own64.alloc {w : World} {base : Nat} {v : Value} {l : List Nat} (h : Own64 w base v l) (o : Obj) : Own64 (w.alloc o) base v l := World.ownsRow.alloc h o
theorem Own64.below {w w' : World} {base : Nat} {v : Value} {l : List Nat} (h : Own64 w base v l) (hB : Below w.heap.size w w') : Own64 w' base v l := by
  refine ⟨h.1, ?_⟩
  rcases h.2 with h1 | ⟨g, cap, cur, hv, hb, hg, rest⟩
  · exact .inl h1
  · have hlt : g < w.heap.size := by
      rcases Nat.lt_or_ge g w.heap.size with h2 | h2
      · exact h2
      · rw [Array.getElem?_eq_none h2] at hg; cases hg
    exact .inr ⟨g, cap, cur, hv, hb, (hB.block g hlt).trans hg, rest⟩
theorem Own64.form {w : World} {base : Nat} {v : Value} {l : List Nat} (h : Own64 w base v l) (hl : 0 < l.length) : ∃ g c, v = .slice (some ⟨g, 0, none⟩) l.length c ∧ base ≤ g ∧ g < w.heap.size ∧ l.length ≤ c ∧ c ≤ 9223372036854775807 ∧ (∀ i, i < l.length → w.cell? ⟨g, i, none⟩ = some (.int .u64 ((l.getD i 0 : Nat) : Int))) ∧ ∀ i, w.frozen? ⟨g, i, none⟩ = false := by
  rcases h.2 with ⟨_, h0⟩ | ⟨g, c, cur, rfl, hb, hg, hn, hc, _⟩
  · omega
  · have hlt : g < w.heap.size := by
      rcases Nat.lt_or_ge g w.heap.size with h2 | h2
      · exact h2
      · rw [Array.getElem?_eq_none h2] at hg; cases hg
    exact ⟨g, c, rfl, hb, hlt, hn, by unfold maxLen at hc; exact hc, fun i hi => by rw [World.ownsRow.cellAt h i (by omega), w64_get l i hi], fun i => World.ownsRow.frozenAt h i⟩

theorem run_app64 (w : World) (base : Nat) (ty : TypeId) (v : Value) (W : List Nat) (hO : Own64 w base v W) (ad : Addr) (c : Nat) (l : List Nat) (hS : ∀ j u, (w64 l)[j]? = some u → w.cell? (ad.add j) = some u)
    (hb : W.length + l.length ≤ 100000) (hbase : base ≤ w.heap.size) :
    ∃ v' w', (Builtin.append_ #[159, 159] ty #[v, .slice (some ad) l.length c]).run Tryd.prog w = .ok v' w' ∧ Own64 w' base v' (W ++ l) ∧ w.grownBy w' v.ownBlock := by
  obtain ⟨i0, hi, hz0, hz1, hz2⟩ := info_parts info57
  obtain ⟨v', w', hr, h2, h3, _, h5⟩ := run_append_own_at (P := Tryd.prog) w base 159 ty 91 i0 (.int .u64 0) 1 8 Tryd.underlying159 hi hz0 hz1 hz2 rfl (by omega) v W.length (w64 W) hO ad l.length c (w64 l) (by simp [w64]) hS
    (w64_one l) (by unfold maxLen; omega) (by omega) hbase
  refine ⟨v', w', hr, ?_, h3⟩
  unfold Own64
  rw [List.length_append, show w64 (W ++ l) = w64 W ++ w64 l by simp [w64]]
  exact h2

/-- One word more, at a step of a region that draws its order. -/
theorem step_app64 {ops : Array Oper} {o : Oper} {a : Act} {w : World} {K : Act → World → Prop} {Q : Exit → Act → World → Prop} {E : Prop} (hgd : o.guard = none) (s x : Operand)
    (ho : o.op = .call { callee := .builtin .append, args := #[s, x], argTypes := #[159, 159] }) (base : Nat) (v : Value) (W : List Nat) (hs : a.eval s = v) (hO : Own64 w base v W)
    (g : Nat) (t : TypeId) (y : Int) (hx : a.eval x = .slice (some ⟨g, 0, none⟩) 1 1) (hc : Blk w g t [.int .u64 y]) (z : Nat) (hy : y = (z : Int)) (hb : W.length + 1 ≤ 100000) (hbase : base ≤ w.heap.size)
    (h : ∀ v' w', Hid (Own64 w' base v' (W ++ [z])) → Hid (w.grownBy w' v.ownBlock) → K (a.put o.dst v') w') :
    if Region.wanted o (yielded ops a.tmps) = true then Oper.wp Tryd.prog o a w K Q else E := by
  have hw : Region.wanted o (yielded ops a.tmps) = true := by simp [Region.wanted, hgd]
  rw [if_pos hw]
  subst hy
  obtain ⟨v', w', hr, h2, h3⟩ := run_app64 w base o.type v W hO ⟨g, 0, none⟩ 1 [z] (fun j u hu => by
    rw [Addr.add_mid, Nat.zero_add, hc.cell]
    exact hu) (by simpa using hb) hbase
  unfold Oper.wp execOp
  simp only [ho, resolve, invoke, builtin, Sem.run_bind, Sem.run_pure, Result.andThen_ok, List.map_toArray, List.map_cons, List.map_nil, hs, hx]
  have hr' : (Builtin.append_ #[159, 159] o.type #[v, .slice (some ⟨g, 0, none⟩) 1 1]).run Tryd.prog w = .ok v' w' := hr
  rw [hr']
  exact h v' w' (Lib.hid h2) (Lib.hid h3)
theorem wpList_app64 {w : World} {ops : Array Oper} {rest : List Oper} {o : Oper} {a : Act} {Q : Exit → Act → World → Prop} (hgd : o.guard = none) (s x : Operand)
    (ho : o.op = .call { callee := .builtin .append, args := #[s, x], argTypes := #[159, 159] }) (base : Nat) (v : Value) (W : List Nat) (hs : a.eval s = v) (hO : Own64 w base v W)
    (ad : Addr) (n c : Nat) (l : List Nat) (hx : a.eval x = .slice (some ad) n c) (hn : n = l.length) (hS : ∀ j u, (w64 l)[j]? = some u → w.cell? (ad.add j) = some u) (hb : W.length + l.length ≤ 100000) (hbase : base ≤ w.heap.size)
    (h : ∀ v' w', Hid (Own64 w' base v' (W ++ l)) → Hid (w.grownBy w' v.ownBlock) → wpList Tryd.prog ops Q rest (a.put o.dst v') w') : wpList Tryd.prog ops Q (o :: rest) a w := by
  subst hn
  refine wpList_plain hgd fun K hK => ?_
  obtain ⟨v', w', hr, h2, h3⟩ := run_app64 w base o.type v W hO ad c l hS hb hbase
  unfold Oper.wp execOp
  simp only [ho, resolve, invoke, builtin, Sem.run_bind, Sem.run_pure, Result.andThen_ok, List.map_toArray, List.map_cons, List.map_nil, hs, hx, hr]
  exact hK _ _ (h v' w' (Lib.hid h2) (Lib.hid h3))
end Go.Proofs.YtkonokjhpddbfaaDoor
namespace Go.Proofs.YtkonokjhpddbfaaDoor
open Go.RowKit
set_option linter.unusedVariables false

theorem idx8 (g o len cap j : Nat) (i : Int) (hi : i = (j : Int)) (hj : j < len) (W : World) : (Instr.indexAt 30 (.slice (some ⟨g, o, none⟩) len cap) (.int .i64 i)).run Tryd.prog W = .ok (.pointer (some ⟨g, o + j, none⟩)) W := by
  obtain ⟨i0, hi0, hz0, hz1, hz2⟩ := info_parts byte_info
  subst hi
  rw [run_indexAt_slice (P := Tryd.prog) (w := W) 30 ⟨g, o, none⟩ len cap .i64 (j : Int) (by kernel_rfl), if_pos (by omega), show Tryd.prog.elem 30 = 5 by kernel_rfl]
  simp [sizeOf, typeInfo, hi0, hz1, Addr.add_mid]
theorem idx64 (g o len cap j : Nat) (i : Int) (hi : i = (j : Int)) (hj : j < len) (W : World) : (Instr.indexAt 159 (.slice (some ⟨g, o, none⟩) len cap) (.int .i64 i)).run Tryd.prog W = .ok (.pointer (some ⟨g, o + j, none⟩)) W := by
  obtain ⟨i0, hi0, hz0, hz1, hz2⟩ := info_parts info57
  subst hi
  rw [run_indexAt_slice (P := Tryd.prog) (w := W) 159 ⟨g, o, none⟩ len cap .i64 (j : Int) (by kernel_rfl), if_pos (by omega), show Tryd.prog.elem 159 = 91 by kernel_rfl]
  simp [sizeOf, typeInfo, hi0, hz1, Addr.add_mid]

theorem word_ref (x0 x1 x2 x3 : Nat) (h0 : x0 < 256) (h1 : x1 < 256) (h2 : x2 < 256) (h3 : x3 < 256) :
    IntKind.u64.wrap (IntKind.u64.wrap (IntKind.u64.wrap (IntKind.u64.wrap (IntKind.u64.wrap (IntKind.u64.wrap (IntKind.u64.wrap (x0 : Int) * 256) + IntKind.u64.wrap (x1 : Int)) * 256) + IntKind.u64.wrap (x2 : Int)) * 256) + IntKind.u64.wrap (x3 : Int)) = ((x0 * 16777216 + x1 * 65536 + x2 * 256 + x3 : Nat) : Int) := by
  simp only [wrap_64]
  omega

theorem Own64.lower {w : World} {base base' : Nat} {v : Value} {l : List Nat} (h : Own64 w base v l) (hb : base' ≤ base) : Own64 w base' v l := by
  refine ⟨h.1, ?_⟩
  rcases h.2 with h1 | ⟨g, cap, cur, hv, hg, rest⟩
  · exact .inl h1
  · exact .inr ⟨g, cap, cur, hv, by omega, rest⟩
theorem xor64 (a b : Nat) (ha : a < 4294967296) (hb : b < 4294967296) : bits .xor .u64 (a : Int) (b : Int) = ((a ^^^ b : Nat) : Int) := u64_xor_nat a b (by omega) (by omega)
theorem sgA_ref (x : Nat) (hx : x < 4294967296) : bits .xor .u64 (bits .xor .u64 ((turned true 7 x : Nat) : Int) ((turned true 18 x : Nat) : Int)) ((turned false 3 x : Nat) : Int) = ((sgA x : Nat) : Int) := by
  have h1 := rotr_lt 7 x (by omega) hx
  have h2 := rotr_lt 18 x (by omega) hx
  rw [turned_true, turned_true, turned_false, xor64 _ _ h1 h2, xor64 _ _ (xor_lt h1 h2) (by omega)]
  rfl
theorem sgB_ref (x : Nat) (hx : x < 4294967296) : bits .xor .u64 (bits .xor .u64 ((turned true 17 x : Nat) : Int) ((turned true 19 x : Nat) : Int)) ((turned false 10 x : Nat) : Int) = ((sgB x : Nat) : Int) := by
  have h1 := rotr_lt 17 x (by omega) hx
  have h2 := rotr_lt 19 x (by omega) hx
  rw [turned_true, turned_true, turned_false, xor64 _ _ h1 h2, xor64 _ _ (xor_lt h1 h2) (by omega)]
  rfl

theorem sum_ref (a b c d : Nat) (ha : a < 4294967296) (hb : b < 4294967296) (hc : c < 4294967296) (hd : d < 4294967296) :
    (IntKind.u64.wrap (IntKind.u64.wrap (IntKind.u64.wrap ((a : Int) + (b : Int)) + (c : Int)) + (d : Int))).tmod 4294967296 = (((a + b + c + d) % 4294967296 : Nat) : Int) := by
  simp only [wrap_64]
  rw [Int.tmod_eq_emod_of_nonneg (by omega)]
  omega

/-- The eight words, gone round. -/
def VRow (w : World) (g k z0 z1 z2 z3 z4 z5 z6 z7 : Nat) : Prop := ∀ p, p < 8 → w.cell? ⟨g, p, none⟩ = some (.int .u64 (([z0, z1, z2, z3, z4, z5, z6, z7].getD ((p + k) % 8) 0 : Nat) : Int)) ∧ w.frozen? ⟨g, p, none⟩ = false
section
variable {w : World} {g k z0 z1 z2 z3 z4 z5 z6 z7 : Nat}
theorem VRow.at0 (h : VRow w g k z0 z1 z2 z3 z4 z5 z6 z7) (p : Nat) (hp : p < 8) (e : (p + k) % 8 = 0) : w.cell? ⟨g, p, none⟩ = some (.int .u64 (z0 : Int)) := by have h1 := (h p hp).1; rw [e] at h1; exact h1
theorem VRow.at1 (h : VRow w g k z0 z1 z2 z3 z4 z5 z6 z7) (p : Nat) (hp : p < 8) (e : (p + k) % 8 = 1) : w.cell? ⟨g, p, none⟩ = some (.int .u64 (z1 : Int)) := by have h1 := (h p hp).1; rw [e] at h1; exact h1
theorem VRow.at2 (h : VRow w g k z0 z1 z2 z3 z4 z5 z6 z7) (p : Nat) (hp : p < 8) (e : (p + k) % 8 = 2) : w.cell? ⟨g, p, none⟩ = some (.int .u64 (z2 : Int)) := by have h1 := (h p hp).1; rw [e] at h1; exact h1
theorem VRow.at3 (h : VRow w g k z0 z1 z2 z3 z4 z5 z6 z7) (p : Nat) (hp : p < 8) (e : (p + k) % 8 = 3) : w.cell? ⟨g, p, none⟩ = some (.int .u64 (z3 : Int)) := by have h1 := (h p hp).1; rw [e] at h1; exact h1
theorem VRow.at4 (h : VRow w g k z0 z1 z2 z3 z4 z5 z6 z7) (p : Nat) (hp : p < 8) (e : (p + k) % 8 = 4) : w.cell? ⟨g, p, none⟩ = some (.int .u64 (z4 : Int)) := by have h1 := (h p hp).1; rw [e] at h1; exact h1
theorem VRow.at5 (h : VRow w g k z0 z1 z2 z3 z4 z5 z6 z7) (p : Nat) (hp : p < 8) (e : (p + k) % 8 = 5) : w.cell? ⟨g, p, none⟩ = some (.int .u64 (z5 : Int)) := by have h1 := (h p hp).1; rw [e] at h1; exact h1
theorem VRow.at6 (h : VRow w g k z0 z1 z2 z3 z4 z5 z6 z7) (p : Nat) (hp : p < 8) (e : (p + k) % 8 = 6) : w.cell? ⟨g, p, none⟩ = some (.int .u64 (z6 : Int)) := by have h1 := (h p hp).1; rw [e] at h1; exact h1
theorem VRow.at7 (h : VRow w g k z0 z1 z2 z3 z4 z5 z6 z7) (p : Nat) (hp : p < 8) (e : (p + k) % 8 = 7) : w.cell? ⟨g, p, none⟩ = some (.int .u64 (z7 : Int)) := by have h1 := (h p hp).1; rw [e] at h1; exact h1
end

theorem quiet_r {f : FuncId} {args : Array Value} {w : World} {n : Nat} {v : Value} (h : Calls Tryd.prog f args (w.drewN n) fun e w' => e = .returned v ∧ ∃ q, w' = (w.drewN n).drewN q) : Calls Tryd.prog f args (w.drewN n) fun e w'' => e = .returned v ∧ ∃ m, w'' = w.drewN m :=
  h.mono fun _ _ ⟨he, q, hq⟩ => ⟨he, n + q, by rw [hq, World.drewN_drewN]⟩
theorem quiet_s {f : FuncId} {args : Array Value} {w : World} {n : Nat} {v : Value} (h : Calls Tryd.prog f args (w.drewN n) fun e w' => e = .returned v ∧ w.drewN n = w') : Calls Tryd.prog f args (w.drewN n) fun e w'' => e = .returned v ∧ ∃ m, w'' = w.drewN m :=
  h.mono fun _ _ ⟨he, hq⟩ => ⟨he, n, hq.symm⟩
theorem VRow.drewN {w : World} {g k z0 z1 z2 z3 z4 z5 z6 z7 : Nat} (h : VRow w g k z0 z1 z2 z3 z4 z5 z6 z7) (n : Nat) : VRow (w.drewN n) g k z0 z1 z2 z3 z4 z5 z6 z7 := h
theorem bgE_ref (x : Nat) (hx : x < 4294967296) : bits .xor .u64 (bits .xor .u64 ((turned true 6 x : Nat) : Int) ((turned true 11 x : Nat) : Int)) ((turned true 25 x : Nat) : Int) = ((bgE x : Nat) : Int) := by
  have h1 := rotr_lt 6 x (by omega) hx
  have h2 := rotr_lt 11 x (by omega) hx
  have h3 := rotr_lt 25 x (by omega) hx
  rw [turned_true, turned_true, turned_true, xor64 _ _ h1 h2, xor64 _ _ (xor_lt h1 h2) h3]
  rfl
theorem bgA_ref (x : Nat) (hx : x < 4294967296) : bits .xor .u64 (bits .xor .u64 ((turned true 2 x : Nat) : Int) ((turned true 13 x : Nat) : Int)) ((turned true 22 x : Nat) : Int) = ((bgA x : Nat) : Int) := by
  have h1 := rotr_lt 2 x (by omega) hx
  have h2 := rotr_lt 13 x (by omega) hx
  have h3 := rotr_lt 22 x (by omega) hx
  rw [turned_true, turned_true, turned_true, xor64 _ _ h1 h2, xor64 _ _ (xor_lt h1 h2) h3]
  rfl

/-- What a block's call is handed: words and a block's bytes, and the texts of the constants. -/
structure Handed (w : World) (gh oh gb ob : Nat) (hs bs : List Nat) (r : ByteArray) : Prop where
  hl : hs.length = 8
  hlt : ∀ x ∈ hs, x < 4294967296
  hb : gh < w.heap.size
  hc : ∀ i, i < 8 → w.cell? ⟨gh, oh + i, none⟩ = some (.int .u64 ((hs.getD i 0 : Nat) : Int))
  bl : bs.length = 64
  blt : ∀ x ∈ bs, x < 256
  bb : gb < w.heap.size
  bc : ∀ i, i < 64 → w.cell? ⟨gb, ob + i, none⟩ = some (.int .u8 ((bs.getD i 0 : Nat) : Int))
  rs : r.size = 8 * 64
  rl : ∀ c ∈ letters r, okLetter c = true
  rk : ∀ i, i < 64 → hexAt (letters r) i = kws.getD i 0
theorem Handed.below {w w' : World} {gh oh gb ob : Nat} {hs bs : List Nat} {r : ByteArray} (h : Handed w gh oh gb ob hs bs r) (hB : Below w.heap.size w w') : Handed w' gh oh gb ob hs bs r :=
  ⟨h.hl, h.hlt, Nat.lt_of_lt_of_le h.hb hB.size, fun i hi => by rw [hB.cell (p := ⟨gh, oh + i, none⟩) h.hb]; exact h.hc i hi, h.bl, h.blt, Nat.lt_of_lt_of_le h.bb hB.size, fun i hi => by rw [hB.cell (p := ⟨gb, ob + i, none⟩) h.bb]; exact h.bc i hi, h.rs, h.rl, h.rk⟩


/-- One word more in a row gone round. -/
theorem VRow.set3 {w : World} {g k z0 z1 z2 z3 z4 z5 z6 z7 : Nat} (h : VRow w g k z0 z1 z2 z3 z4 z5 z6 z7) (p y : Nat) (hp : p < 8) (e : (p + k) % 8 = 3) : VRow (w.setCell ⟨g, p, none⟩ (.int .u64 (y : Int))) g k z0 z1 z2 y z4 z5 z6 z7 := by
  intro q hq
  obtain ⟨h1, h2⟩ := h q hq
  rcases Nat.decEq p q with hne | heq
  · rw [World.cell?_setCell_other _ _ _ _ (by intro h; injection h; omega), World.frozen?_setCell]
    refine ⟨?_, h2⟩
    rw [h1]
    have hm : (q + k) % 8 ≠ 3 := by omega
    have hl : (q + k) % 8 < 8 := by omega
    revert hm hl
    generalize (q + k) % 8 = r
    intro hm hl
    match r, hm, hl with
    | 0, _, _ | 1, _, _ | 2, _, _ | 4, _, _ | 5, _, _ | 6, _, _ | 7, _, _ => rfl
  · subst heq
    rw [World.cell?_setCell_same _ _ _ h1, World.frozen?_setCell, e]
    exact ⟨rfl, h2⟩
theorem VRow.set7 {w : World} {g k z0 z1 z2 z3 z4 z5 z6 z7 : Nat} (h : VRow w g k z0 z1 z2 z3 z4 z5 z6 z7) (p y : Nat) (hp : p < 8) (e : (p + k) % 8 = 7) : VRow (w.setCell ⟨g, p, none⟩ (.int .u64 (y : Int))) g k z0 z1 z2 z3 z4 z5 z6 y := by
  intro q hq
  obtain ⟨h1, h2⟩ := h q hq
  rcases Nat.decEq p q with hne | heq
  · rw [World.cell?_setCell_other _ _ _ _ (by intro h; injection h; omega), World.frozen?_setCell]
    refine ⟨?_, h2⟩
    rw [h1]
    have hm : (q + k) % 8 ≠ 7 := by omega
    have hl : (q + k) % 8 < 8 := by omega
    revert hm hl
    generalize (q + k) % 8 = r
    intro hm hl
    have hr : r = 0 ∨ r = 1 ∨ r = 2 ∨ r = 3 ∨ r = 4 ∨ r = 5 ∨ r = 6 := by omega
    rcases hr with rfl | rfl | rfl | rfl | rfl | rfl | rfl <;> rfl
  · subst heq
    rw [World.cell?_setCell_same _ _ _ h1, World.frozen?_setCell, e]
    exact ⟨rfl, h2⟩
theorem VRow.round {w : World} {g k z0 z1 z2 z3 z4 z5 z6 z7 : Nat} (h : VRow w g k z0 z1 z2 z3 z4 z5 z6 z7) : VRow w g (k + 1) z7 z0 z1 z2 z3 z4 z5 z6 := by
  intro q hq
  obtain ⟨h1, h2⟩ := h q hq
  refine ⟨?_, h2⟩
  rw [h1]
  have hl : (q + k) % 8 < 8 := by omega
  have he : (q + (k + 1)) % 8 = ((q + k) % 8 + 1) % 8 := by omega
  rw [he]
  revert hl
  generalize (q + k) % 8 = r
  intro hl
  match r, hl with
  | 0, _ | 1, _ | 2, _ | 3, _ | 4, _ | 5, _ | 6, _ | 7, _ => rfl
theorem VRow.last {w : World} {g z0 z1 z2 z3 z4 z5 z6 z7 : Nat} (h : VRow w g 64 z0 z1 z2 z3 z4 z5 z6 z7) (p : Nat) (hp : p < 8) : w.cell? ⟨g, p, none⟩ = some (.int .u64 (([z0, z1, z2, z3, z4, z5, z6, z7].getD p 0 : Nat) : Int)) := by
  have h1 := (h p hp).1
  rw [show (p + 64) % 8 = p by omega] at h1
  exact h1
theorem VRow.below {w w' : World} {g k z0 z1 z2 z3 z4 z5 z6 z7 : Nat} (h : VRow w g k z0 z1 z2 z3 z4 z5 z6 z7) {B : Nat} (hb : Below B w w') (hg : g < B) : VRow w' g k z0 z1 z2 z3 z4 z5 z6 z7 := fun p hp => by
  rw [hb.cell (p := ⟨g, p, none⟩) hg, hb.frozen (p := ⟨g, p, none⟩) hg]
  exact h p hp

/-- Which place holds which word. -/
def Places (k p0 p1 p2 p3 p4 p5 p6 p7 : Nat) : Prop := p0 = (64 - k) % 8 ∧ p1 = (65 - k) % 8 ∧ p2 = (66 - k) % 8 ∧ p3 = (67 - k) % 8 ∧ p4 = (68 - k) % 8 ∧ p5 = (69 - k) % 8 ∧ p6 = (70 - k) % 8 ∧ p7 = (71 - k) % 8
theorem Places.lt {k p0 p1 p2 p3 p4 p5 p6 p7 : Nat} (h : Places k p0 p1 p2 p3 p4 p5 p6 p7) : p0 < 8 ∧ p1 < 8 ∧ p2 < 8 ∧ p3 < 8 ∧ p4 < 8 ∧ p5 < 8 ∧ p6 < 8 ∧ p7 < 8 := by
  unfold Places at h
  omega
theorem Places.at_ {k p0 p1 p2 p3 p4 p5 p6 p7 : Nat} (h : Places k p0 p1 p2 p3 p4 p5 p6 p7) (hk : k < 64) : (p0 + k) % 8 = 0 ∧ (p1 + k) % 8 = 1 ∧ (p2 + k) % 8 = 2 ∧ (p3 + k) % 8 = 3 ∧ (p4 + k) % 8 = 4 ∧ (p5 + k) % 8 = 5 ∧ (p6 + k) % 8 = 6 ∧ (p7 + k) % 8 = 7 := by
  unfold Places at h
  omega
theorem Places.ne {k p0 p1 p2 p3 p4 p5 p6 p7 : Nat} (h : Places k p0 p1 p2 p3 p4 p5 p6 p7) (hk : k < 64) : p0 ≠ p3 ∧ p0 ≠ p7 ∧ p3 ≠ p7 := by
  unfold Places at h
  omega
theorem VRow.cells {w : World} {g k z0 z1 z2 z3 z4 z5 z6 z7 p0 p1 p2 p3 p4 p5 p6 p7 : Nat} (h : VRow w g k z0 z1 z2 z3 z4 z5 z6 z7) (hp : Places k p0 p1 p2 p3 p4 p5 p6 p7) (hk : k < 64) :
    w.cell? ⟨g, p0, none⟩ = some (.int .u64 (z0 : Int)) ∧ w.cell? ⟨g, p1, none⟩ = some (.int .u64 (z1 : Int)) ∧ w.cell? ⟨g, p2, none⟩ = some (.int .u64 (z2 : Int)) ∧ w.cell? ⟨g, p3, none⟩ = some (.int .u64 (z3 : Int)) ∧ w.cell? ⟨g, p4, none⟩ = some (.int .u64 (z4 : Int)) ∧ w.cell? ⟨g, p5, none⟩ = some (.int .u64 (z5 : Int)) ∧ w.cell? ⟨g, p6, none⟩ = some (.int .u64 (z6 : Int)) ∧ w.cell? ⟨g, p7, none⟩ = some (.int .u64 (z7 : Int)) := by
  obtain ⟨l0, l1, l2, l3, l4, l5, l6, l7⟩ := hp.lt
  obtain ⟨e0, e1, e2, e3, e4, e5, e6, e7⟩ := hp.at_ hk
  exact ⟨h.at0 p0 l0 e0, h.at1 p1 l1 e1, h.at2 p2 l2 e2, h.at3 p3 l3 e3, h.at4 p4 l4 e4, h.at5 p5 l5 e5, h.at6 p6 l6 e6, h.at7 p7 l7 e7⟩
theorem VRow.stores {w : World} {g k z0 z1 z2 z3 z4 z5 z6 z7 p0 p1 p2 p3 p4 p5 p6 p7 : Nat} (h : VRow w g k z0 z1 z2 z3 z4 z5 z6 z7) (hp : Places k p0 p1 p2 p3 p4 p5 p6 p7) (hk : k < 64) (y3 : Nat) : VRow (w.setCell ⟨g, p3, none⟩ (.int .u64 (y3 : Int))) g k z0 z1 z2 y3 z4 z5 z6 z7 := h.set3 p3 y3 hp.lt.2.2.2.1 (hp.at_ hk).2.2.2.1
theorem VRow.stores7 {w : World} {g k z0 z1 z2 z3 z4 z5 z6 z7 p0 p1 p2 p3 p4 p5 p6 p7 : Nat} (h : VRow w g k z0 z1 z2 z3 z4 z5 z6 z7) (hp : Places k p0 p1 p2 p3 p4 p5 p6 p7) (hk : k < 64) (y7 : Nat) : VRow (w.setCell ⟨g, p7, none⟩ (.int .u64 (y7 : Int))) g (k + 1) y7 z0 z1 z2 z3 z4 z5 z6 := (h.set7 p7 y7 hp.lt.2.2.2.2.2.2.2 (hp.at_ hk).2.2.2.2.2.2.2).round
/-- Which place a difference's rest names. -/
theorem Places.rests {k p0 p1 p2 p3 p4 p5 p6 p7 : Nat} (h : Places k p0 p1 p2 p3 p4 p5 p6 p7) (hk : k < 64) :
    ((64 - (k : Int)) % 8 = (p0 : Int) ∧ (68 - (k : Int)) % 8 = (p4 : Int) ∧ (71 - (k : Int)) % 8 = (p7 : Int) ∧ (67 - (k : Int)) % 8 = (p3 : Int)) ∧ (69 - (k : Int)).tmod 8 = (p5 : Int) ∧ (70 - (k : Int)).tmod 8 = (p6 : Int) ∧ (65 - (k : Int)).tmod 8 = (p1 : Int) ∧ (66 - (k : Int)).tmod 8 = (p2 : Int) := by
  unfold Places at h
  refine ⟨by omega, ?_, ?_, ?_, ?_⟩ <;> rw [Int.tmod_eq_emod_of_nonneg (by omega)] <;> omega

theorem cell_lt {w : World} {g o : Nat} {v : Value} (h : w.cell? ⟨g, o, none⟩ = some v) : g < w.heap.size := by
  rcases Nat.lt_or_ge g w.heap.size with hlt | hge
  · exact hlt
  · simp [World.cell?, Array.getElem?_eq_none hge] at h
theorem comp_take_all (hs bs : List Nat) (h : hs.length = 8) : (comp hs bs).take 8 = comp hs bs := List.take_of_length_le (by rw [comp_length hs bs h]; exact Nat.le_refl _)

/-- No bit is in both: the sum is the choice. -/
theorem choice_sum (e f g : Nat) (he : e < 4294967296) (hf : f < 4294967296) (hg : g < 4294967296) : (e &&& f) + ((4294967295 - e) &&& g) = chs e f g := by
  have hx : e &&& f < 4294967296 := and_lt hf
  have hy : (4294967295 - e) &&& g < 4294967296 := and_lt hg
  have hz : (e &&& f) &&& ((4294967295 - e) &&& g) = 0 := by
    apply Nat.eq_of_testBit_eq
    intro i
    have h1 : (4294967295 - e).testBit i = (decide (i < 32) && !e.testBit i) := by
      have := Nat.testBit_two_pow_sub_succ (n := 32) (x := e) he i
      rw [show 4294967295 - e = 2 ^ 32 - (e + 1) by omega]
      exact this
    simp only [Nat.testBit_and, h1, Nat.zero_testBit]
    cases e.testBit i <;> simp
  have hb := BitVec.add_eq_or_of_and_eq_zero (w := 64) (BitVec.ofNat 64 (e &&& f)) (BitVec.ofNat 64 ((4294967295 - e) &&& g)) (by
    apply BitVec.eq_of_toNat_eq
    simp only [BitVec.toNat_and, BitVec.toNat_ofNat]
    rw [Nat.mod_eq_of_lt (by omega), Nat.mod_eq_of_lt (by omega), hz])
  have hn := congrArg BitVec.toNat hb
  simp only [BitVec.toNat_add, BitVec.toNat_or, BitVec.toNat_ofNat] at hn
  rw [Nat.mod_eq_of_lt (a := e &&& f) (by omega), Nat.mod_eq_of_lt (a := (4294967295 - e) &&& g) (by omega), Nat.mod_eq_of_lt (by omega)] at hn
  rw [hn]
  unfold chs
  apply Nat.eq_of_testBit_eq
  intro i
  have hi := congrArg (fun z => Nat.testBit z i) hz
  simp only [Nat.testBit_and, Nat.zero_testBit] at hi
  simp only [Nat.testBit_or, Nat.testBit_xor, Nat.testBit_and]
  revert hi
  cases e.testBit i <;> cases f.testBit i <;> cases (4294967295 - e).testBit i <;> cases g.testBit i <;> simp
theorem and64 (a b : Nat) (ha : a < 4294967296) (hb : b < 4294967296) : bits .and .u64 (a : Int) (b : Int) = ((a &&& b : Nat) : Int) := u64_and_nat a b (by omega) (by omega)
theorem one_ref (z4 z5 z6 z7 c x : Nat) (l4 : z4 < 4294967296) (l5 : z5 < 4294967296) (l6 : z6 < 4294967296) (l7 : z7 < 4294967296) (lc : c < 4294967296) (lx : x < 4294967296) :
    IntKind.u64.wrap (IntKind.u64.wrap (IntKind.u64.wrap (IntKind.u64.wrap ((z7 : Int) + ((bgE z4 : Nat) : Int)) + IntKind.u64.wrap (bits .and .u64 (z4 : Int) (z5 : Int) + bits .and .u64 (4294967295 - (z4 : Int)) (z6 : Int))) + (c : Int)) + (x : Int)) = ((z7 + bgE z4 + chs z4 z5 z6 + c + x : Nat) : Int) := by
  have e1 : (4294967295 - (z4 : Int)) = ((4294967295 - z4 : Nat) : Int) := by omega
  rw [e1, and64 _ _ l4 l5, and64 _ _ (by omega) l6]
  have e2 := choice_sum z4 z5 z6 l4 l5 l6
  have b1 := bgE_lt z4 l4
  have b2 := chs_lt z4 z5 z6 l5 l6
  simp only [wrap_64]
  omega
theorem mid_ref (z3 y : Nat) (l3 : z3 < 4294967296) (ly : y < 21474836480) : ((z3 : Int) + (y : Int)) % 4294967296 = (((z3 + y % 4294967296) % 4294967296 : Nat) : Int) := by omega
theorem last_ref (y z0 z1 z2 : Nat) (ly : y < 21474836480) (l0 : z0 < 4294967296) (l1 : z1 < 4294967296) (l2 : z2 < 4294967296) :
    (IntKind.u64.wrap (IntKind.u64.wrap ((y : Int) + ((bgA z0 : Nat) : Int)) + bits .xor .u64 (bits .xor .u64 (bits .and .u64 (z0 : Int) (z1 : Int)) (bits .and .u64 (z0 : Int) (z2 : Int))) (bits .and .u64 (z1 : Int) (z2 : Int)))).tmod 4294967296 = (((y % 4294967296 + bgA z0 + maj z0 z1 z2) % 4294967296 : Nat) : Int) := by
  rw [and64 _ _ l0 l1, and64 _ _ l0 l2, and64 _ _ l1 l2, xor64 _ _ (and_lt l1) (and_lt l2), xor64 _ _ (xor_lt (and_lt l1) (and_lt l2)) (and_lt l2)]
  have b1 := bgA_lt z0 l0
  have b2 := maj_lt z0 z1 z2 l1 l2
  have e : (z0 &&& z1) ^^^ (z0 &&& z2) ^^^ (z1 &&& z2) = maj z0 z1 z2 := rfl
  rw [e]
  simp only [wrap_64]
  rw [Int.tmod_eq_emod_of_nonneg (by omega)]
  omega
theorem out_ref (a b : Nat) (ha : a < 4294967296) (hb : b < 4294967296) : (IntKind.u64.wrap ((a : Int) + (b : Int))).tmod 4294967296 = (((a + b) % 4294967296 : Nat) : Int) := by
  rw [wrap_64, Int.tmod_eq_emod_of_nonneg (by omega)]
  omega
theorem addw_take (ws vs : List Nat) (k : Nat) (h1 : k < ws.length) (h2 : k < vs.length) : (addw ws vs).take (k + 1) = (addw ws vs).take k ++ [(ws.getD k 0 + vs.getD k 0) % 4294967296] := by
  have hl : k < (addw ws vs).length := by simp [addw]; omega
  rw [List.take_succ_eq_append_getElem hl]
  simp [addw, List.getD, h1, h2]
end Go.Proofs.YtkonokjhpddbfaaDoor
namespace Go.Proofs.YtkonokjhpddbfaaDoor
open Go.RowKit
set_option linter.unusedVariables false

set_option maxRecDepth 100000 in
set_option maxHeartbeats 4000000 in
theorem block_any (f r : ByteArray) (gh oh ch gb ob cb : Nat) (hs bs : List Nat) (w1 : World) (HH1 : Hid (Handed w1 gh oh gb ob hs bs r)) (hch : 8 ≤ ch) (hcb : 64 ≤ cb) :
    Calls Tryd.prog 100 #[.agg #[.string f, .string r], .slice (some ⟨gh, oh, none⟩) 8 ch, .slice (some ⟨gb, ob, none⟩) 64 cb] w1 fun e w' => ∃ v, e = .returned v ∧ Own64 w' w1.heap.size v (comp hs bs) ∧ Below w1.heap.size w1 w' := by
  go_enter Tryd.func100, Tryd.ntmps100
  go_wp2_with fail
  have HW1 := Lib.hid ((Below.refl w1.heap.size w1).alloc (Nat.le_refl _) (.cells #[.string f, .string r] 40))
  have HST : Hid ((w1.alloc (.cells #[.string f, .string r] 40)).cell? ⟨w1.heap.size, 1, none⟩ = some (.string r)) := Lib.hid (by simp)
  have HSZ : Hid ((w1.alloc (.cells #[.string f, .string r] 40)).heap.size = w1.heap.size + 1) := Lib.hid (by simp)
  have HH := Lib.hid (HH1.out.below HW1.out)
  generalize w1.alloc (.cells #[.string f, .string r] 40) = w at HW1 HST HSZ HH ⊢
  have hw1 : w1.heap.size < w.heap.size := by rw [HSZ.out]; omega
  have hbb := HH.out.bb
  have hhb := HH.out.hb
  go_loopw [8, 7] (fun i t wr => ∃ (k : Nat), k ≤ 64 ∧ i = .int .i64 k ∧ Hid (Own64 wr w.heap.size t (sched bs k)) ∧ Hid (Below w.heap.size w wr)) (fun i _ _ => 64 - (intOf i).toNat)
  case atStart => exact ⟨0, Nat.zero_le _, rfl, Lib.hid (Own64.nil _ _), Lib.hid (Below.refl _ _)⟩
  case round =>
    obtain ⟨k, hk, rfl, HO, HB⟩ := hrel
    by_cases hlt : k < 64
    · by_cases h16 : k < 16
      · have c0 := HH.out.bc (4 * k) (by omega)
        have c1 := HH.out.bc (4 * k + 1) (by omega)
        have c2 := HH.out.bc (4 * k + 2) (by omega)
        have c3 := HH.out.bc (4 * k + 3) (by omega)
        obtain ⟨x0, e0⟩ : ∃ x, bs.getD (4 * k) 0 = x := ⟨_, rfl⟩
        obtain ⟨x1, e1⟩ : ∃ x, bs.getD (4 * k + 1) 0 = x := ⟨_, rfl⟩
        obtain ⟨x2, e2⟩ : ∃ x, bs.getD (4 * k + 2) 0 = x := ⟨_, rfl⟩
        obtain ⟨x3, e3⟩ : ∃ x, bs.getD (4 * k + 3) 0 = x := ⟨_, rfl⟩
        have l0 := getD_lt (by omega) HH.out.blt (4 * k)
        have l1 := getD_lt (by omega) HH.out.blt (4 * k + 1)
        have l2 := getD_lt (by omega) HH.out.blt (4 * k + 2)
        have l3 := getD_lt (by omega) HH.out.blt (4 * k + 3)
        rw [e0] at c0 l0
        rw [e1] at c1 l1
        rw [e2] at c2 l2
        rw [e3] at c3 l3
        rw [← HB.out.cell (p := ⟨gb, _, none⟩) hbb] at c0 c1 c2 c3
        have HE : Hid (sched bs (k + 1) = sched bs k ++ [x0 * 16777216 + x1 * 65536 + x2 * 256 + x3]) := Lib.hid (by
          simp only [sched, nextW, if_pos h16, word, e0, e1, e2, e3])
        have i0 : (4 : Int) * (k : Int) ≤ 60 := by omega
        have i1 : (0 : Int) ≤ (k : Int) := by omega
        have i2 : (k : Int) < 16 := by omega
        have hbr : gb < wr.heap.size := Nat.lt_of_lt_of_le hbb HB.out.size
        have j0 : IntKind.i64.wrap (4 * (k : Int)) = 4 * (k : Int) := IntWalk.i64_in _ (by omega)
        have j1 : IntKind.i64.wrap (4 * (k : Int) + 1) = 4 * (k : Int) + 1 := IntWalk.i64_in _ (by omega)
        have j2 : IntKind.i64.wrap (4 * (k : Int) + 2) = 4 * (k : Int) + 2 := IntWalk.i64_in _ (by omega)
        have j3 : IntKind.i64.wrap (4 * (k : Int) + 3) = 4 * (k : Int) + 3 := IntWalk.i64_in _ (by omega)
        have t0 := idx8 gb ob 64 cb (4 * k) (4 * (k : Int)) (by omega) (by omega)
        have t1 := idx8 gb ob 64 cb (4 * k + 1) (4 * (k : Int) + 1) (by omega) (by omega)
        have t2 := idx8 gb ob 64 cb (4 * k + 2) (4 * (k : Int) + 2) (by omega) (by omega)
        have t3 := idx8 gb ob 64 cb (4 * k + 3) (4 * (k : Int) + 3) (by omega) (by omega)
        have HN := Lib.hid (word_ref x0 x1 x2 x3 l0 l1 l2 l3)
        have HK : Hid (∀ (o : Obj) (w2 : World), ((wr.alloc o).drew).grownBy w2 u7.ownBlock → Below w.heap.size w w2) := Lib.hid fun o w2 hg => (HB.out.alloc HB.out.size o).drew.grown hg (by have := HB.out.size; simp; omega) (fun g hg => (World.ownsRow.lt HO.out g hg).1)
        have HK2 : Hid (∀ w' : World, Below w.heap.size w w' → w'.cell? ⟨gb, ob + 4 * k, none⟩ = some (.int .u8 (x0 : Int)) ∧ w'.cell? ⟨gb, ob + (4 * k + 1), none⟩ = some (.int .u8 (x1 : Int)) ∧ w'.cell? ⟨gb, ob + (4 * k + 2), none⟩ = some (.int .u8 (x2 : Int)) ∧ w'.cell? ⟨gb, ob + (4 * k + 3), none⟩ = some (.int .u8 (x3 : Int))) := Lib.hid fun w' hw => by
          rw [hw.cell (p := ⟨gb, _, none⟩) hbb, hw.cell (p := ⟨gb, _, none⟩) hbb, hw.cell (p := ⟨gb, _, none⟩) hbb, hw.cell (p := ⟨gb, _, none⟩) hbb, ← HB.out.cell (p := ⟨gb, _, none⟩) hbb, ← HB.out.cell (p := ⟨gb, _, none⟩) hbb, ← HB.out.cell (p := ⟨gb, _, none⟩) hbb, ← HB.out.cell (p := ⟨gb, _, none⟩) hbb]
          exact ⟨c0, c1, c2, c3⟩
        have HSL : Hid ((sched bs k).length + 1 ≤ 100000) := Lib.hid (by rw [sched_length]; omega)
        have HBS : Hid (∀ o : Obj, w.heap.size ≤ ((wr.alloc o).drew).heap.size) := Lib.hid fun o => by have := HB.out.size; simp; omega
        clear e0 e1 e2 e3
        go_wp2_with fail
        go_region_held3 (fun w' => w'.cell? ⟨gb, ob + 4 * k, none⟩ = some (.int .u8 (x0 : Int)) ∧ w'.cell? ⟨gb, ob + (4 * k + 1), none⟩ = some (.int .u8 (x1 : Int)) ∧ w'.cell? ⟨gb, ob + (4 * k + 2), none⟩ = some (.int .u8 (x2 : Int)) ∧ w'.cell? ⟨gb, ob + (4 * k + 3), none⟩ = some (.int .u8 (x3 : Int))) (first | exact ⟨c0, c1, c2, c3⟩ | exact HK2.out _ (HB.out.alloc HB.out.size _).drew | exact HK2.out _ (HK.out _ _ HG2.out))
          ((refine step_app64 (by rfl) (.tmp 32) (.tmp 66) (by rfl) w.heap.size u7 (sched bs k) (by rfl) (HO.out.alloc _) wr.heap.size 91 _ (by rfl) ((Blk.new wr 91 [_]).drewN 1) _ HN.out HSL.out (HBS.out _) ?_; intro v2 w2 HO2 HG2))
        rw [← HE.out] at HO2
        have HB2 := Lib.hid (HK.out _ _ HG2.out)
        clear c0 c1 c2 c3 t0 t1 t2 t3 j0 j1 j2 j3 HG2
        go_wp2
        go_roundw
        case rel => exact ⟨k + 1, by omega, by go_num, HO2, HB2⟩
        case measure => simp [intOf]; omega
      · have h16I : (16 : Int) ≤ (k : Int) := by omega
        have hltI : (k : Int) < 64 := by omega
        have hsl := sched_length bs k
        obtain ⟨g7, c7, hv7, hg7, hg7l, hc7, hc7b, hcells, _⟩ := HO.out.form (by omega)
        rw [hsl] at hv7 hcells hc7
        subst hv7
        have hsb := sched_lt bs HH.out.blt k
        have c0 := hcells (k - 16) (by omega)
        have c1 := hcells (k - 15) (by omega)
        have c2 := hcells (k - 7) (by omega)
        have c3 := hcells (k - 2) (by omega)
        have l0 := getD_lt (by omega) hsb (k - 16)
        have l1 := getD_lt (by omega) hsb (k - 15)
        have l2 := getD_lt (by omega) hsb (k - 7)
        have l3 := getD_lt (by omega) hsb (k - 2)
        obtain ⟨x0, e0⟩ : ∃ x, (sched bs k).getD (k - 16) 0 = x := ⟨_, rfl⟩
        obtain ⟨x1, e1⟩ : ∃ x, (sched bs k).getD (k - 15) 0 = x := ⟨_, rfl⟩
        obtain ⟨x2, e2⟩ : ∃ x, (sched bs k).getD (k - 7) 0 = x := ⟨_, rfl⟩
        obtain ⟨x3, e3⟩ : ∃ x, (sched bs k).getD (k - 2) 0 = x := ⟨_, rfl⟩
        rw [e0] at c0 l0
        rw [e1] at c1 l1
        rw [e2] at c2 l2
        rw [e3] at c3 l3
        have HE : Hid (sched bs (k + 1) = sched bs k ++ [(x0 + sgA x1 + x2 + sgB x3) % 4294967296]) := Lib.hid (by
          show sched bs k ++ [nextW bs (sched bs k) k] = _
          rw [nextW, if_neg (by omega), more, e0, e1, e2, e3])
        have t0 := idx64 g7 0 k c7 (k - 16) ((k : Int) - 16) (by omega) (by omega)
        have t1 := idx64 g7 0 k c7 (k - 15) ((k : Int) - 15) (by omega) (by omega)
        have t2 := idx64 g7 0 k c7 (k - 7) ((k : Int) - 7) (by omega) (by omega)
        have t3 := idx64 g7 0 k c7 (k - 2) ((k : Int) - 2) (by omega) (by omega)
        simp only [Nat.zero_add] at t0 t1 t2 t3
        have j0 : IntKind.i64.wrap ((k : Int) - 16) = (k : Int) - 16 := IntWalk.i64_in _ (by omega)
        have j1 : IntKind.i64.wrap ((k : Int) - 15) = (k : Int) - 15 := IntWalk.i64_in _ (by omega)
        have j2 : IntKind.i64.wrap ((k : Int) - 7) = (k : Int) - 7 := IntWalk.i64_in _ (by omega)
        have j3 : IntKind.i64.wrap ((k : Int) - 2) = (k : Int) - 2 := IntWalk.i64_in _ (by omega)
        have HSA := Lib.hid (sgA_ref x1 l1)
        have HSB := Lib.hid (sgB_ref x3 l3)
        have la := sgA_lt x1 l1
        have lb := sgB_lt x3 l3
        clear e0 e1 e2 e3 hcells hsb hsl
        go_wp2_with fail
        go_quiet (fail)
        go_wp2_with fail
        refine (right_any x1 7 true _ l1 (by omega)).mono ?_
        rintro e w' ⟨rfl, q7, rfl⟩
        go_wp2_with fail
        refine (right_any x1 18 true _ l1 (by omega)).mono ?_
        rintro e w' ⟨rfl, q18, rfl⟩
        go_wp2_with fail
        refine (right_any x1 3 false _ l1 (by omega)).mono ?_
        rintro e w' ⟨rfl, q3, rfl⟩
        go_wp2_with fail
        refine (right_any x3 17 true _ l3 (by omega)).mono ?_
        rintro e w' ⟨rfl, q17, rfl⟩
        go_wp2_with fail
        refine (right_any x3 19 true _ l3 (by omega)).mono ?_
        rintro e w' ⟨rfl, q19, rfl⟩
        go_wp2_with fail
        refine (right_any x3 10 false _ l3 (by omega)).mono ?_
        rintro e w' ⟨rfl, q10, rfl⟩
        go_wp2_with fail
        rw [HSA.out, HSB.out]
        obtain ⟨N, hN⟩ : ∃ N, nq + q7 + q18 + q3 + q17 + q19 + q10 = N := ⟨_, rfl⟩
        rw [hN]
        have d0 : (wr.drewN N).cell? ⟨g7, k - 16, none⟩ = some (.int .u64 (x0 : Int)) := c0
        have d2 : (wr.drewN N).cell? ⟨g7, k - 7, none⟩ = some (.int .u64 (x2 : Int)) := c2
        have HOV : Hid (Own64 (wr.drewN N) w.heap.size (.slice (some ⟨g7, 0, none⟩) k c7) (sched bs k)) := Lib.hid HO.out
        have HBV : Hid (Below w.heap.size w (wr.drewN N)) := Lib.hid (below_drewN HB.out N)
        have hgV : g7 < (wr.drewN N).heap.size := hg7l
        clear hN
        generalize wr.drewN N = V at d0 d2 HOV HBV hgV ⊢
        have HN := Lib.hid (sum_ref x0 (sgA x1) x2 (sgB x3) l0 la l2 lb)
        have HKD : Hid (∀ o : Obj, (V.alloc o).drew.cell? ⟨g7, k - 16, none⟩ = some (.int .u64 (x0 : Int)) ∧ (V.alloc o).drew.cell? ⟨g7, k - 7, none⟩ = some (.int .u64 (x2 : Int))) := Lib.hid fun o => ⟨(World.cell?_alloc_lt V o _ hgV).trans d0, (World.cell?_alloc_lt V o _ hgV).trans d2⟩
        have HSL : Hid ((sched bs k).length + 1 ≤ 100000) := Lib.hid (by rw [sched_length]; omega)
        have HBS : Hid (∀ o : Obj, w.heap.size ≤ ((V.alloc o).drew).heap.size) := Lib.hid fun o => by have := HBV.out.size; simp; omega
        have HK : Hid (∀ (o : Obj) (w2 : World), ((V.alloc o).drew).grownBy w2 (Value.slice (some ⟨g7, 0, none⟩) k c7).ownBlock → Below w.heap.size w w2) := Lib.hid fun o w2 hg => (HBV.out.alloc HBV.out.size o).drew.grown hg (by have := HBV.out.size; simp; omega) (fun g hg => (World.ownsRow.lt HOV.out g hg).1)
        clear c0 c1 c2 c3
        go_region_law (refine step_app64 (by rfl) (.tmp 94) (.tmp 111) (by rfl) w.heap.size _ (sched bs k) (by rfl) (HOV.out.alloc _) V.heap.size 91 _ (by rfl) ((Blk.new V 91 [_]).drewN 1) _ HN.out HSL.out (HBS.out _) ?_; intro v2 w2 HO2 HG2)
        all_goals
          rw [← HE.out] at HO2
          have HB2 := Lib.hid (HK.out _ _ HG2.out)
          clear d0 d2 t0 t1 t2 t3 j0 j1 j2 j3 HG2
          go_wp2
          go_roundw
          case rel => exact ⟨k + 1, by omega, by go_num, HO2, HB2⟩
          case measure => simp [intOf]; omega
    · obtain rfl : k = 64 := by omega
      rw [show ((64 : Nat) : Int) = 64 from rfl]
      have hsl := sched_length bs 64
      obtain ⟨gw, cw, hvw, hgw, hgwl, hcw, hcwb, hwcells, _⟩ := HO.out.form (by omega)
      rw [hsl] at hvw hwcells hcw
      subst hvw
      have hsb := sched_lt bs HH.out.blt 64
      have HSV : Hid (∀ j u, (w64 hs)[j]? = some u → wr.cell? ((⟨gh, oh, none⟩ : Addr).add j) = some u) := Lib.hid fun j u hu => by
        have hj : j < hs.length := by have := (List.getElem?_eq_some_iff.1 hu).1; rwa [w64_length] at this
        rw [Addr.add_mid, HB.out.cell (p := ⟨gh, oh + j, none⟩) hhb, HH.out.hc j (by rw [HH.out.hl] at hj; exact hj), ← hu, w64_get hs j hj]
      have HL8 : Hid (8 = hs.length) := Lib.hid HH.out.hl.symm
      have HN8 : Hid (([] : List Nat).length + hs.length ≤ 100000) := Lib.hid (by rw [HH.out.hl]; simp)
      have HWC : Hid (∀ i, i < 64 → wr.cell? ⟨gw, i, none⟩ = some (.int .u64 (((sched bs 64).getD i 0 : Nat) : Int))) := Lib.hid hwcells
      clear hwcells hsl
      go_upto_region 13 with (at_builtin; refine wpList_app64 rfl (.tmp 113) (.tmp 114) rfl wr.heap.size (.slice none 0 0) [] rfl (Own64.nil _ _) ⟨gh, oh, none⟩ 8 ch hs rfl HL8.out HSV.out HN8.out (Nat.le_refl _) ?_; intro v2 w2 HO2 HG2)
      rw [List.nil_append] at HO2
      have HB2 : Hid (Below wr.heap.size wr w2) := Lib.hid ((Below.refl _ _).grown HG2.out (Nat.le_refl _) (fun k hk => by simp [Value.ownBlock] at hk))
      obtain ⟨gv, cv, hvv, hgv, hgvl, hcv, hcvb, hvcells, hvfr⟩ := HO2.out.form (by rw [HH.out.hl]; omega)
      rw [HH.out.hl] at hvv hvcells hcv
      subst hvv
      have HVR : Hid (VRow w2 gv 0 (hs.getD 0 0) (hs.getD 1 0) (hs.getD 2 0) (hs.getD 3 0) (hs.getD 4 0) (hs.getD 5 0) (hs.getD 6 0) (hs.getD 7 0)) := Lib.hid fun p hp => ⟨by
        rw [hvcells p hp]
        match p, hp with
        | 0, _ | 1, _ | 2, _ | 3, _ | 4, _ | 5, _ | 6, _ | 7, _ => rfl, hvfr p⟩
      have HWR : Hid (∀ i, i < 64 → w2.cell? ⟨gw, i, none⟩ = some (.int .u64 (((sched bs 64).getD i 0 : Nat) : Int))) := Lib.hid fun i hi => (HB2.out.cell (p := ⟨gw, i, none⟩) hgwl).trans (HWC.out i hi)
      have HW2 : Hid (Below w.heap.size w w2) := Lib.hid (HB.out.trans (HB2.out.mono HB.out.size))
      have hgwv : gw ≠ gv := by omega
      have hgvw : w.heap.size ≤ gv := Nat.le_trans HB.out.size hgv
      clear hvcells hvfr HG2 HO2 HSV HN8 HL8 HWC
      go_wp2_with fail
      go_loopw [12] (fun i wq => ∃ (k z0 z1 z2 z3 z4 z5 z6 z7 : Nat), k ≤ 64 ∧ i = .int .i64 k ∧ Hid (Stands bs hs k z0 z1 z2 z3 z4 z5 z6 z7) ∧ Hid (VRow wq gv k z0 z1 z2 z3 z4 z5 z6 z7) ∧ Hid (∀ i, i < 64 → wq.cell? ⟨gw, i, none⟩ = some (.int .u64 (((sched bs 64).getD i 0 : Nat) : Int))) ∧ Hid (Below w.heap.size w wq)) (fun i _ => 64 - (intOf i).toNat)
      case atStart => exact ⟨0, _, _, _, _, _, _, _, _, Nat.zero_le _, rfl, Lib.hid rfl, HVR, HWR, HW2⟩
      case round =>
        obtain ⟨k, z0, z1, z2, z3, z4, z5, z6, z7, hk, rfl, HK, HV, HWQ, HBQ⟩ := hrel
        by_cases hlt2 : k < 64
        · obtain ⟨l0, l1, l2, l3, l4, l5, l6, l7⟩ := HK.out.ok HH.out.hlt
          simp only at l0 l1 l2 l3 l4 l5 l6 l7
          obtain ⟨p0, p1, p2, p3, p4, p5, p6, p7, hP⟩ : ∃ p0 p1 p2 p3 p4 p5 p6 p7, Places k p0 p1 p2 p3 p4 p5 p6 p7 := ⟨_, _, _, _, _, _, _, _, rfl, rfl, rfl, rfl, rfl, rfl, rfl, rfl⟩
          have HP := Lib.hid hP
          have k0 : (0 : Int) ≤ (k : Int) := by omega
          have k1 : (k : Int) < 64 := by omega
          have r5 : IntKind.i64.wrap (69 - (k : Int)) = 69 - (k : Int) := IntWalk.i64_in _ (by omega)
          have r6 : IntKind.i64.wrap (70 - (k : Int)) = 70 - (k : Int) := IntWalk.i64_in _ (by omega)
          have r1 : IntKind.i64.wrap (65 - (k : Int)) = 65 - (k : Int) := IntWalk.i64_in _ (by omega)
          have r2 : IntKind.i64.wrap (66 - (k : Int)) = 66 - (k : Int) := IntWalk.i64_in _ (by omega)
          obtain ⟨b0, b1, b2, b3, b4, b5, b6, b7⟩ := HP.out.lt
          have t0 := idx64 gv 0 8 cv p0 (p0 : Int) rfl b0
          have t1 := idx64 gv 0 8 cv p1 (p1 : Int) rfl b1
          have t2 := idx64 gv 0 8 cv p2 (p2 : Int) rfl b2
          have t3 := idx64 gv 0 8 cv p3 (p3 : Int) rfl b3
          have t4 := idx64 gv 0 8 cv p4 (p4 : Int) rfl b4
          have t5 := idx64 gv 0 8 cv p5 (p5 : Int) rfl b5
          have t6 := idx64 gv 0 8 cv p6 (p6 : Int) rfl b6
          have t7 := idx64 gv 0 8 cv p7 (p7 : Int) rfl b7
          have tw := idx64 gw 0 64 cw k (k : Int) rfl hlt2
          simp only [Nat.zero_add] at t0 t1 t2 t3 t4 t5 t6 t7 tw
          obtain ⟨⟨m0, m4, m7, m3⟩, m5, m6, m1, m2⟩ := HP.out.rests hlt2
          obtain ⟨c0, c1, c2, c3, c4, c5, c6, c7⟩ := HV.out.cells HP.out hlt2
          obtain ⟨x, hx⟩ : ∃ x, (sched bs 64).getD k 0 = x := ⟨_, rfl⟩
          obtain ⟨c, hc⟩ : ∃ c, kws.getD k 0 = c := ⟨_, rfl⟩
          have lc : c < 4294967296 := by rw [← hc]; exact getD_lt (Nat.zero_lt_succ _) kws_lt k
          have lx : x < 4294967296 := by rw [← hx]; exact getD_lt (Nat.zero_lt_succ _) (sched_lt bs HH.out.blt 64) k
          have HXW := Lib.hid hx
          have HAT : Hid (∀ W : World, Calls Tryd.prog 99 #[.string r, .int .i64 (k : Int)] W fun e w' => e = .returned (.int .u64 (c : Int)) ∧ W = w') := Lib.hid fun W => by
            have h := at_any r k 64 W (Lib.hid HH.out.rs) (Lib.hid HH.out.rl) hlt2 (by decide)
            rw [HH.out.rk k hlt2, hc] at h
            exact h
          have HBE := Lib.hid (bgE_ref z4 l4)
          have HBA := Lib.hid (bgA_ref z0 l0)
          have HON := Lib.hid (one_ref z4 z5 z6 z7 c x l4 l5 l6 l7 lc lx)
          have hy : z7 + bgE z4 + chs z4 z5 z6 + c + x < 21474836480 := by
            have b1 := bgE_lt z4 l4
            have b2 := chs_lt z4 z5 z6 l5 l6
            clear r5 r6 r1 r2 t0 t1 t2 t3 t4 t5 t6 t7 tw m0 m1 m2 m3 m4 m5 m6 m7
            omega
          obtain ⟨y, hyy⟩ : ∃ y, z7 + bgE z4 + chs z4 z5 z6 + c + x = y := ⟨_, rfl⟩
          rw [hyy] at hy HON
          have HNX : Hid (Stands bs hs (k + 1) ((y % 4294967296 + bgA z0 + maj z0 z1 z2) % 4294967296) z0 z1 z2 ((z3 + y % 4294967296) % 4294967296) z4 z5 z6) := Lib.hid (by
            have h := HK.out.next hx hc
            simp only [fst] at h
            rw [hyy] at h
            exact h)
          have HMI := Lib.hid (mid_ref z3 y l3 hy)
          have HLA := Lib.hid (last_ref y z0 z1 z2 hy l0 l1 l2)
          have HRV0 : Hid (wr.cell? ⟨w1.heap.size, 1, none⟩ = some (.string r)) := Lib.hid ((HBQ.out.cell (p := ⟨w1.heap.size, 1, none⟩) hw1).trans HST.out)
          have HR6 : Hid (∀ W, Calls Tryd.prog 108 #[.int .u64 (z4 : Int), .int .i64 6, .bool true] W fun e w' => e = .returned (.int .u64 ((turned true 6 z4 : Nat) : Int)) ∧ ∃ q, w' = W.drewN q) := Lib.hid fun W => right_any z4 6 true W l4 (by decide)
          have HR11 : Hid (∀ W, Calls Tryd.prog 108 #[.int .u64 (z4 : Int), .int .i64 11, .bool true] W fun e w' => e = .returned (.int .u64 ((turned true 11 z4 : Nat) : Int)) ∧ ∃ q, w' = W.drewN q) := Lib.hid fun W => right_any z4 11 true W l4 (by decide)
          have HR25 : Hid (∀ W, Calls Tryd.prog 108 #[.int .u64 (z4 : Int), .int .i64 25, .bool true] W fun e w' => e = .returned (.int .u64 ((turned true 25 z4 : Nat) : Int)) ∧ ∃ q, w' = W.drewN q) := Lib.hid fun W => right_any z4 25 true W l4 (by decide)
          have HR2 : Hid (∀ W, Calls Tryd.prog 108 #[.int .u64 (z0 : Int), .int .i64 2, .bool true] W fun e w' => e = .returned (.int .u64 ((turned true 2 z0 : Nat) : Int)) ∧ ∃ q, w' = W.drewN q) := Lib.hid fun W => right_any z0 2 true W l0 (by decide)
          have HR13 : Hid (∀ W, Calls Tryd.prog 108 #[.int .u64 (z0 : Int), .int .i64 13, .bool true] W fun e w' => e = .returned (.int .u64 ((turned true 13 z0 : Nat) : Int)) ∧ ∃ q, w' = W.drewN q) := Lib.hid fun W => right_any z0 13 true W l0 (by decide)
          have HR22 : Hid (∀ W, Calls Tryd.prog 108 #[.int .u64 (z0 : Int), .int .i64 22, .bool true] W fun e w' => e = .returned (.int .u64 ((turned true 22 z0 : Nat) : Int)) ∧ ∃ q, w' = W.drewN q) := Lib.hid fun W => right_any z0 22 true W l0 (by decide)
          clear hP hx hc hyy HVR HWR HW2
          go_wp2_with fail
          go_quiet (fail)
          go_wp2_with fail
          have HVVa := Lib.hid (HV.out.drewN nq)
          have HQVa : Hid (∀ i, i < 64 → (wr.drewN nq).cell? ⟨gw, i, none⟩ = some (.int .u64 (((sched bs 64).getD i 0 : Nat) : Int))) := Lib.hid HWQ.out
          have HBVa := Lib.hid (below_drewN HBQ.out nq)
          have HRVa : Hid ((wr.drewN nq).cell? ⟨w1.heap.size, 1, none⟩ = some (.string r)) := Lib.hid HRV0.out
          clear c0 c1 c2 c3 c4 c5 c6 c7
          generalize wr.drewN nq = Va at HVVa HQVa HBVa HRVa ⊢
          obtain ⟨c0, c1, c2, c3, c4, c5, c6, c7⟩ := HVVa.out.cells HP.out hlt2
          go_quiet ((go_at_call 108; first | with_reducible exact quiet_r (HR6.out _) | with_reducible exact quiet_r (HR11.out _) | with_reducible exact quiet_r (HR25.out _)))
          go_wp2_with fail
          rw [HBE.out]
          have HVVb := Lib.hid (HVVa.out.drewN nq)
          have HQVb : Hid (∀ i, i < 64 → (Va.drewN nq).cell? ⟨gw, i, none⟩ = some (.int .u64 (((sched bs 64).getD i 0 : Nat) : Int))) := Lib.hid HQVa.out
          have HBVb := Lib.hid (below_drewN HBVa.out nq)
          have HRVb : Hid ((Va.drewN nq).cell? ⟨w1.heap.size, 1, none⟩ = some (.string r)) := Lib.hid HRVa.out
          clear c0 c1 c2 c3 c4 c5 c6 c7
          generalize Va.drewN nq = Vb at HVVb HQVb HBVb HRVb ⊢
          obtain ⟨c0, c1, c2, c3, c4, c5, c6, c7⟩ := HVVb.out.cells HP.out hlt2
          have hcx := HQVb.out k hlt2
          rw [HXW.out] at hcx
          have hst := HRVb.out
          go_quiet ((go_at_call 99; exact quiet_s (HAT.out _)))
          go_wp2_with fail
          rw [HON.out]
          have HVVc := Lib.hid (HVVb.out.drewN nq)
          have HQVc : Hid (∀ i, i < 64 → (Vb.drewN nq).cell? ⟨gw, i, none⟩ = some (.int .u64 (((sched bs 64).getD i 0 : Nat) : Int))) := Lib.hid HQVb.out
          have HBVc := Lib.hid (below_drewN HBVb.out nq)
          have HRVc : Hid ((Vb.drewN nq).cell? ⟨w1.heap.size, 1, none⟩ = some (.string r)) := Lib.hid HRVb.out
          clear c0 c1 c2 c3 c4 c5 c6 c7 hcx hst
          generalize Vb.drewN nq = Vc at HVVc HQVc HBVc HRVc ⊢
          obtain ⟨c0, c1, c2, c3, c4, c5, c6, c7⟩ := HVVc.out.cells HP.out hlt2
          go_quiet (fail)
          go_wp2_with fail
          have HVVd := Lib.hid (HVVc.out.drewN nq)
          have HQVd : Hid (∀ i, i < 64 → (Vc.drewN nq).cell? ⟨gw, i, none⟩ = some (.int .u64 (((sched bs 64).getD i 0 : Nat) : Int))) := Lib.hid HQVc.out
          have HBVd := Lib.hid (below_drewN HBVc.out nq)
          have HRVd : Hid ((Vc.drewN nq).cell? ⟨w1.heap.size, 1, none⟩ = some (.string r)) := Lib.hid HRVc.out
          clear c0 c1 c2 c3 c4 c5 c6 c7
          generalize Vc.drewN nq = Vd at HVVd HQVd HBVd HRVd ⊢
          obtain ⟨c0, c1, c2, c3, c4, c5, c6, c7⟩ := HVVd.out.cells HP.out hlt2
          go_quiet ((go_at_call 108; first | with_reducible exact quiet_r (HR2.out _) | with_reducible exact quiet_r (HR13.out _) | with_reducible exact quiet_r (HR22.out _)))
          go_upto_region 22 with (fail)
          rw [HBA.out]
          have HVVe := Lib.hid (HVVd.out.drewN nq)
          have HQVe : Hid (∀ i, i < 64 → (Vd.drewN nq).cell? ⟨gw, i, none⟩ = some (.int .u64 (((sched bs 64).getD i 0 : Nat) : Int))) := Lib.hid HQVd.out
          have HBVe := Lib.hid (below_drewN HBVd.out nq)
          have HRVe : Hid ((Vd.drewN nq).cell? ⟨w1.heap.size, 1, none⟩ = some (.string r)) := Lib.hid HRVd.out
          clear c0 c1 c2 c3 c4 c5 c6 c7
          generalize Vd.drewN nq = Ve at HVVe HQVe HBVe HRVe ⊢
          obtain ⟨c0, c1, c2, c3, c4, c5, c6, c7⟩ := HVVe.out.cells HP.out hlt2
          have f3 := (HVVe.out p3 b3).2
          have f7 := (HVVe.out p7 b7).2
          go_wp2_with fail
          rw [HMI.out]
          have HVVf := Lib.hid (HVVe.out.stores HP.out hlt2 ((z3 + y % 4294967296) % 4294967296))
          have HQVf : Hid (∀ i, i < 64 → (Ve.setCell ⟨gv, p3, none⟩ (.int .u64 (((z3 + y % 4294967296) % 4294967296 : Nat) : Int))).cell? ⟨gw, i, none⟩ = some (.int .u64 (((sched bs 64).getD i 0 : Nat) : Int))) := Lib.hid fun i hi => (World.cell?_setCell_far _ _ _ _ (by intro h; exact hgwv h.symm)).trans (HQVe.out i hi)
          have HBVf := Lib.hid (HBVe.out.setCell (p := ⟨gv, p3, none⟩) hgvw (.int .u64 (((z3 + y % 4294967296) % 4294967296 : Nat) : Int)))
          clear c0 c1 c2 c3 c4 c5 c6 c7 f3 f7
          generalize Ve.setCell ⟨gv, p3, none⟩ (.int .u64 (((z3 + y % 4294967296) % 4294967296 : Nat) : Int)) = Vf at HVVf HQVf HBVf ⊢
          obtain ⟨c0, c1, c2, c3, c4, c5, c6, c7⟩ := HVVf.out.cells HP.out hlt2
          have f7 := (HVVf.out p7 b7).2
          clear c1 c2 c3 c4 c5 c6 r5 r6 r1 r2 m5 m6 m1 m2 t1 t2 t3 t4 t5 t6 tw HR6 HR11 HR25 HR2 HR13 HR22 HAT
          go_still_tail 25, (by kernel_rfl)
          change wpList _ _ _ _ _ Vf.drew
          have HVVg := Lib.hid (HVVf.out.drewN 1)
          have HQVg : Hid (∀ i, i < 64 → Vf.drew.cell? ⟨gw, i, none⟩ = some (.int .u64 (((sched bs 64).getD i 0 : Nat) : Int))) := Lib.hid HQVf.out
          have HBVg := Lib.hid HBVf.out.drew
          change Hid (VRow Vf.drew gv k z0 z1 z2 ((z3 + y % 4294967296) % 4294967296) z4 z5 z6 z7) at HVVg
          clear c0 c7 f7
          generalize Vf.drew = Vg at HVVg HQVg HBVg ⊢
          obtain ⟨c0, c1, c2, c3, c4, c5, c6, c7⟩ := HVVg.out.cells HP.out hlt2
          have f7 := (HVVg.out p7 b7).2
          clear c0 c1 c2 c3 c4 c5 c6
          go_wp2
          rw [HLA.out]
          go_roundw
          case rel => exact ⟨k + 1, _, _, _, _, _, _, _, _, hlt2, by go_num, HNX, Lib.hid (HVVg.out.stores7 HP.out hlt2 _), Lib.hid fun i hi => (World.cell?_setCell_far _ _ _ _ (by intro h; exact hgwv h.symm)).trans (HQVg.out i hi), Lib.hid (HBVg.out.setCell (p := ⟨gv, p7, none⟩) hgvw _)⟩
          case measure => clear m0 m3 m4 m7 t0 t7; simp [intOf]; omega
        · obtain rfl : k = 64 := by omega
          rw [show ((64 : Nat) : Int) = 64 from rfl]
          have HE := Lib.hid HK.out.end_
          obtain ⟨l0, l1, l2, l3, l4, l5, l6, l7⟩ := HK.out.ok HH.out.hlt
          simp only at l0 l1 l2 l3 l4 l5 l6 l7
          have HVL : Hid (∀ x ∈ [z0, z1, z2, z3, z4, z5, z6, z7], x < 4294967296) := Lib.hid (by simp; omega)
          obtain ⟨w3, e3⟩ : ∃ w3, w3 = wr := ⟨_, rfl⟩
          subst e3
          have hv3 : gv < w3.heap.size := cell_lt (HV.out 0 (by omega)).1
          have hh3 : gh < w3.heap.size := Nat.lt_of_lt_of_le hhb HBQ.out.size
          have HCH : Hid (∀ i, i < 8 → w3.cell? ⟨gh, oh + i, none⟩ = some (.int .u64 ((hs.getD i 0 : Nat) : Int))) := Lib.hid fun i hi => (HBQ.out.cell (p := ⟨gh, oh + i, none⟩) hhb).trans (HH.out.hc i hi)
          have HCV := Lib.hid HV.out.last
          go_wp2_with fail
          go_loopw [25, 24] (fun i t wq => ∃ (j : Nat), j ≤ 8 ∧ i = .int .i64 j ∧ Hid (Own64 wq w3.heap.size t ((comp hs bs).take j)) ∧ Hid (Below w3.heap.size w3 wq)) (fun i _ _ => 8 - (intOf i).toNat)
          case atStart => exact ⟨0, Nat.zero_le _, rfl, Lib.hid (Own64.nil _ _), Lib.hid (Below.refl _ _)⟩
          case round =>
            obtain ⟨j, hj, rfl, HO3, HB3⟩ := hrel
            by_cases hlt3 : j < 8
            · have c0 := HCH.out j hlt3
              have c1 := HCV.out j hlt3
              rw [← HB3.out.cell (p := ⟨gh, _, none⟩) hh3] at c0
              rw [← HB3.out.cell (p := ⟨gv, _, none⟩) hv3] at c1
              have x0 := getD_lt (by omega) HH.out.hlt j
              have x1 := getD_lt (by omega) HVL.out j
              have HE2 := Lib.hid (addw_take hs [z0, z1, z2, z3, z4, z5, z6, z7] j (by rw [HH.out.hl]; exact hlt3) hlt3)
              obtain ⟨a, ea⟩ : ∃ x, hs.getD j 0 = x := ⟨_, rfl⟩
              obtain ⟨b, eb⟩ : ∃ x, [z0, z1, z2, z3, z4, z5, z6, z7].getD j 0 = x := ⟨_, rfl⟩
              rw [ea] at c0 x0 HE2
              rw [eb] at c1 x1 HE2
              rw [← HE.out] at HE2
              have i1 : (0 : Int) ≤ (j : Int) := by omega
              have i2 : (j : Int) < 8 := by omega
              have t0 := idx64 gh oh 8 ch j (j : Int) rfl hlt3
              have t1 := idx64 gv 0 8 cv j (j : Int) rfl hlt3
              simp only [Nat.zero_add] at t1
              have HN := Lib.hid (out_ref a b x0 x1)
              have HK : Hid (∀ (o : Obj) (w2 : World), ((wr.alloc o).drew).grownBy w2 u24.ownBlock → Below w3.heap.size w3 w2) := Lib.hid fun o w2 hg => (HB3.out.alloc HB3.out.size o).drew.grown hg (by have := HB3.out.size; simp; omega) (fun g hg => (World.ownsRow.lt HO3.out g hg).1)
              have HK2 : Hid (∀ w' : World, Below w3.heap.size w3 w' → w'.cell? ⟨gh, oh + j, none⟩ = some (.int .u64 (a : Int)) ∧ w'.cell? ⟨gv, j, none⟩ = some (.int .u64 (b : Int))) := Lib.hid fun w' hw => by
                rw [hw.cell (p := ⟨gh, _, none⟩) hh3, hw.cell (p := ⟨gv, _, none⟩) hv3, ← HB3.out.cell (p := ⟨gh, _, none⟩) hh3, ← HB3.out.cell (p := ⟨gv, _, none⟩) hv3]
                exact ⟨c0, c1⟩
              have HSL : Hid (((comp hs bs).take j).length + 1 ≤ 100000) := Lib.hid (by rw [List.length_take]; omega)
              have HBS : Hid (∀ o : Obj, w3.heap.size ≤ ((wr.alloc o).drew).heap.size) := Lib.hid fun o => by have := HB3.out.size; simp; omega
              clear ea eb
              go_wp2_with fail
              go_region_held3 (fun w' => w'.cell? ⟨gh, oh + j, none⟩ = some (.int .u64 (a : Int)) ∧ w'.cell? ⟨gv, j, none⟩ = some (.int .u64 (b : Int))) (first | exact ⟨c0, c1⟩ | exact HK2.out _ (HB3.out.alloc HB3.out.size _).drew | exact HK2.out _ (HK.out _ _ HG2.out))
                ((refine step_app64 (by rfl) (.tmp 260) (.tmp 271) (by rfl) w3.heap.size u24 ((comp hs bs).take j) (by rfl) (HO3.out.alloc _) wr.heap.size 91 _ (by rfl) ((Blk.new wr 91 [_]).drewN 1) _ HN.out HSL.out (HBS.out _) ?_; intro v2 w2 HO2 HG2))
              rw [← HE2.out] at HO2
              have HB2 := Lib.hid (HK.out _ _ HG2.out)
              clear c0 c1 t0 t1 HG2
              go_wp2
              go_roundw
              case rel => exact ⟨j + 1, by omega, by go_num, HO2, HB2⟩
              case measure => simp [intOf]; omega
            · obtain rfl : j = 8 := by omega
              have HO4 := HO3
              rw [comp_take_all hs bs HH.out.hl] at HO4
              go_wp2
              go_ret
              exact ⟨_, rfl, HO4.out.lower (Nat.le_trans (Nat.le_of_lt hw1) HBQ.out.size), HW1.out.trans ((HBQ.out.trans (HB3.out.mono HBQ.out.size)).mono (Nat.le_of_lt hw1))⟩
end Go.Proofs.YtkonokjhpddbfaaDoor
namespace Go.Proofs.YtkonokjhpddbfaaDoor
open Go.RowKit
set_option linter.unusedVariables false

/-- A number's last m bytes, the greatest first. -/
def low : Nat → Nat → List Nat
  | 0, _ => []
  | m + 1, X => (X / 256 ^ m % 256) :: low m X
theorem low_length (X : Nat) : ∀ m, (low m X).length = m
  | 0 => rfl
  | m + 1 => by simp [low, low_length X m]
theorem low_eight (X : Nat) (h : X < 18446744073709551616) : low 8 X = four (X / 4294967296) ++ four (X % 4294967296) := by
  simp only [low, four, List.cons_append, List.nil_append]
  simp only [show (256 : Nat) ^ 7 = 72057594037927936 from rfl, show (256 : Nat) ^ 6 = 281474976710656 from rfl, show (256 : Nat) ^ 5 = 1099511627776 from rfl, show (256 : Nat) ^ 4 = 4294967296 from rfl, show (256 : Nat) ^ 3 = 16777216 from rfl, show (256 : Nat) ^ 2 = 65536 from rfl, show (256 : Nat) ^ 1 = 256 from rfl, show (256 : Nat) ^ 0 = 1 from rfl]
  simp only [List.cons.injEq, and_true]
  exact ⟨by omega, by omega, by omega, trivial, by omega, by omega, by omega, by omega⟩
theorem w8_set (l : List Nat) (i x : Nat) : (w8 l).set i (.int .u8 (x : Int)) = w8 (l.set i x) := by simp [w8, List.map_set]
theorem set_low (m X : Nat) (h : m < 8) : (List.replicate (8 - m) 0 ++ low m X).set (7 - m) (X / 256 ^ m % 256) = List.replicate (8 - (m + 1)) 0 ++ low (m + 1) X := by
  have e : List.replicate (8 - m) 0 = List.replicate (7 - m) 0 ++ [0] := by rw [show 8 - m = (7 - m) + 1 by omega, List.replicate_succ']
  rw [e, List.append_assoc, List.set_append_right _ _ (by simp), show 8 - (m + 1) = 7 - m by omega]
  simp [low]

/-- What the padding comes to. -/
theorem pad_eq (l : List Nat) (h : l.length < 2305843009213693952) : pad l = l ++ 128 :: List.replicate (63 - (l.length + 8) % 64) 0 ++ low 8 (l.length * 8) := by
  rw [low_eight _ (by omega)]
  unfold pad tail
  rw [Nat.mul_comm 8 l.length]
  simp
theorem pad_lt (l : List Nat) (h : ∀ x ∈ l, x < 256) (hl : l.length < 2305843009213693952) : ∀ x ∈ pad l, x < 256 := by
  intro x hx
  unfold pad tail at hx
  simp only [List.mem_append, List.mem_cons, List.mem_replicate] at hx
  rcases hx with ((hx | rfl | ⟨_, rfl⟩) | hx) | hx
  · exact h x hx
  · omega
  · omega
  · exact four_lt _ (by omega) x hx
  · exact four_lt _ (by omega) x hx
theorem pad_block (l : List Nat) (j : Nat) (h : 64 * j < (pad l).length) : (((pad l).drop (64 * j)).take 64).length = 64 := by
  have := pad_whole l
  rw [List.length_take, List.length_drop]
  omega
theorem pad_block_get (l : List Nat) (j i : Nat) (hi : i < 64) : (((pad l).drop (64 * j)).take 64).getD i 0 = (pad l).getD (64 * j + i) 0 := by
  simp only [List.getD, List.getElem?_take, List.getElem?_drop, hi, if_true]

/-- The sum's bytes, off the words. -/
theorem flat_get : ∀ (ws : List Nat) (i : Nat), (∀ x ∈ ws, x < 4294967296) → i < 4 * ws.length → (ws.flatMap four).getD i 0 = ws.getD (i / 4) 0 / 256 ^ (3 - i % 4) % 256
  | [], i, _, h => by simp at h
  | a :: r, i, hl, h => by
    have ha := hl a (by simp)
    rcases Nat.lt_or_ge i 4 with hi | hi
    · have h4 : i / 4 = 0 := by omega
      rw [h4]
      have hr : i = 0 ∨ i = 1 ∨ i = 2 ∨ i = 3 := by omega
      rcases hr with rfl | rfl | rfl | rfl
      · simp [four]; omega
      · simp [four]
      · simp [four]
      · simp [four]
    · have ih := flat_get r (i - 4) (fun x hx => hl x (by simp [hx])) (by simp at h; omega)
      have e1 : (List.flatMap four (a :: r)).getD i 0 = (r.flatMap four).getD (i - 4) 0 := by
        rw [List.flatMap_cons]
        simp only [List.getD]
        rw [List.getElem?_append_right (by simp [four]; omega)]
        rfl
      rw [e1, ih, show (i - 4) % 4 = i % 4 by omega]
      have e2 : i / 4 = (i - 4) / 4 + 1 := by omega
      rw [e2]
      rfl
theorem set_drop (D : List Nat) (m x : Nat) (hD : D.length = 32) (hm : m < 32) (hx : D.getD (31 - m) 0 = x) : (List.replicate (32 - m) 0 ++ D.drop (32 - m)).set (31 - m) x = List.replicate (32 - (m + 1)) 0 ++ D.drop (32 - (m + 1)) := by
  have e : List.replicate (32 - m) 0 = List.replicate (31 - m) 0 ++ [0] := by rw [show 32 - m = (31 - m) + 1 by omega, List.replicate_succ']
  rw [e, List.append_assoc, List.set_append_right _ _ (by simp), show 32 - (m + 1) = 31 - m by omega, List.drop_eq_getElem_cons (i := 31 - m) (by omega), show 31 - m + 1 = 32 - m by omega]
  have hx2 : D[31 - m]'(by omega) = x := by rw [← hx]; simp [List.getD, show 31 - m < D.length by omega]
  simp [hx2]

/-- What is left of the words while their bytes are taken off. -/
def left (ws : List Nat) (m j : Nat) : Nat := ws.getD j 0 / 256 ^ (min 4 (m - 4 * (7 - j)))
theorem left_zero (ws : List Nat) (j : Nat) : left ws 0 j = ws.getD j 0 := by simp [left]
theorem left_same (ws : List Nat) (m : Nat) (hm : m < 32) : left ws (m + 1) ((31 - m) / 4) = left ws m ((31 - m) / 4) / 256 := by
  unfold left
  have e : min 4 (m + 1 - 4 * (7 - (31 - m) / 4)) = min 4 (m - 4 * (7 - (31 - m) / 4)) + 1 := by omega
  rw [e, Nat.pow_succ, Nat.div_div_eq_div_mul]
theorem left_other (ws : List Nat) (m j : Nat) (hm : m < 32) (hj : j < 8) (hne : j ≠ (31 - m) / 4) : left ws (m + 1) j = left ws m j := by
  unfold left
  have e : min 4 (m + 1 - 4 * (7 - j)) = min 4 (m - 4 * (7 - j)) := by omega
  rw [e]
theorem left_byte (ws : List Nat) (m : Nat) (hw : ws.length = 8) (hl : ∀ x ∈ ws, x < 4294967296) (hm : m < 32) : (ws.flatMap four).getD (31 - m) 0 = left ws m ((31 - m) / 4) % 256 := by
  rw [flat_get ws (31 - m) hl (by omega)]
  unfold left
  have e : min 4 (m - 4 * (7 - (31 - m) / 4)) = 3 - (31 - m) % 4 := by omega
  rw [e]
theorem left_lt (ws : List Nat) (m j : Nat) (hl : ∀ x ∈ ws, x < 4294967296) : left ws m j < 4294967296 := Nat.lt_of_le_of_lt (Nat.div_le_self _ _) (getD_lt (by omega) hl j)

/-- A row of eight words, by a function. -/
def HRow (w : World) (g : Nat) (f : Nat → Nat) : Prop := ∀ j, j < 8 → w.cell? ⟨g, j, none⟩ = some (.int .u64 ((f j : Nat) : Int)) ∧ w.frozen? ⟨g, j, none⟩ = false
theorem HRow.set {w : World} {g : Nat} {ws : List Nat} {m : Nat} (h : HRow w g (left ws m)) (hm : m < 32) (y : Nat) (hy : y = left ws m ((31 - m) / 4) / 256) : HRow (w.setCell ⟨g, (31 - m) / 4, none⟩ (.int .u64 (y : Int))) g (left ws (m + 1)) := by
  intro q hq
  obtain ⟨h1, h2⟩ := h q hq
  rcases Nat.decEq ((31 - m) / 4) q with hne | heq
  · rw [World.cell?_setCell_other _ _ _ _ (by intro h; injection h; omega), World.frozen?_setCell]
    exact ⟨by rw [h1, left_other ws m q hm hq (by omega)], h2⟩
  · subst heq
    rw [World.cell?_setCell_same _ _ _ h1, World.frozen?_setCell, left_same ws m hm, hy]
    exact ⟨rfl, h2⟩
theorem HRow.far {w : World} {g : Nat} {f : Nat → Nat} (h : HRow w g f) {p : Addr} (hp : p.block ≠ g) (v : Value) : HRow (w.setCell p v) g f := fun j hj => by
  rw [World.cell?_setCell_far _ _ _ _ hp, World.frozen?_setCell]
  exact h j hj
theorem HRow.alloc {w : World} {g : Nat} {f : Nat → Nat} (h : HRow w g f) (o : Obj) (hg : g < w.heap.size) : HRow (w.alloc o) g f := fun j hj => by
  have hb := (Below.refl w.heap.size w).alloc (Nat.le_refl _) o
  rw [hb.cell (p := ⟨g, j, none⟩) hg, hb.frozen (p := ⟨g, j, none⟩) hg]
  exact h j hj

/-- The texts of the constants. -/
structure Texts (f r : ByteArray) : Prop where
  fs : f.size = 8 * 8
  fl : ∀ c ∈ letters f, okLetter c = true
  fk : ∀ i, i < 8 → hexAt (letters f) i = firsts.getD i 0
  rs : r.size = 8 * 64
  rl : ∀ c ∈ letters r, okLetter c = true
  rk : ∀ i, i < 64 → hexAt (letters r) i = kws.getD i 0
theorem firsts_set (k : Nat) (h : k < 8) : (firsts.take k ++ List.replicate (8 - k) 0).set k (firsts.getD k 0) = firsts.take (k + 1) ++ List.replicate (8 - (k + 1)) 0 := by
  have hr : k = 0 ∨ k = 1 ∨ k = 2 ∨ k = 3 ∨ k = 4 ∨ k = 5 ∨ k = 6 ∨ k = 7 := by omega
  rcases hr with rfl | rfl | rfl | rfl | rfl | rfl | rfl | rfl <;> rfl
end Go.Proofs.YtkonokjhpddbfaaDoor
namespace Go.Proofs.YtkonokjhpddbfaaDoor
open Go.RowKit
set_option linter.unusedVariables false

theorem cutLo (A : Option Addr) (L c h : Nat) (hh : h ≤ c) (W : World) : (Instr.slice 30 (.slice A L c) none (some (.int .i64 (h : Int))) none).run Tryd.prog W = .ok (.slice A h c) W := by
  obtain ⟨i0, hi, hz0, hz1, hz2⟩ := info_parts byte_info
  rw [run_slice_h (P := Tryd.prog) W 30 A L c (by kernel_rfl) .i64 (h : Int) (by omega) (by omega), show Tryd.prog.elem 30 = 5 by kernel_rfl]
  cases A <;> simp [sizeOf, typeInfo, hi, sliced, Addr.add]
def cutPlace (o c h : Nat) : Nat := if c = h then o else o + h
theorem cutHi (g o L c h : Nat) (hh : h ≤ L) (hc : L ≤ c) (W : World) : (Instr.slice 30 (.slice (some ⟨g, o, none⟩) L c) (some (.int .i64 (h : Int))) none none).run Tryd.prog W = .ok (.slice (some ⟨g, cutPlace o c h, none⟩) (L - h) (c - h)) W := by
  obtain ⟨i0, hi, hz0, hz1, hz2⟩ := info_parts byte_info
  rw [run_slice_l (P := Tryd.prog) W 30 _ L c (by kernel_rfl) .i64 (h : Int) (by omega) (by omega), show Tryd.prog.elem 30 = 5 by kernel_rfl]
  by_cases e : c = h <;> simp [sizeOf, typeInfo, hi, hz1, sliced, cutPlace, e, Addr.add_mid]
theorem made8 (w : World) : (Instr.makeSlice 30 (.int .i64 8) (.int .i64 8)).run Tryd.prog w = .ok (.slice (some ⟨w.heap.size, 0, none⟩) 8 8) (w.alloc (.cells (w8 (List.replicate 8 0)).toArray 5)) := by
  have h := run_make_row' (P := Tryd.prog) 30 5 (.int .u8 0) 1 Tryd.underlying30 byte_info rfl .i64 .i64 8 (by omega) (by omega) w
  rw [show (w8 (List.replicate 8 0)).toArray = madeCells #[.int .u8 0] 8 by kernel_rfl]
  exact h
theorem made64 (w : World) : (Instr.makeSlice 159 (.int .i64 8) (.int .i64 8)).run Tryd.prog w = .ok (.slice (some ⟨w.heap.size, 0, none⟩) 8 8) (w.alloc (.cells (w64 (List.replicate 8 0)).toArray 91)) := by
  have h := run_make_row' (P := Tryd.prog) 159 91 (.int .u64 0) 8 Tryd.underlying159 info57 rfl .i64 .i64 8 (by omega) (by omega) w
  rw [show (w64 (List.replicate 8 0)).toArray = madeCells #[.int .u64 0] 8 by kernel_rfl]
  exact h
theorem Own.shape {w : World} {base : Nat} {v : Value} {l : List Nat} (h : Own w base v l) : ∃ A c, v = .slice A l.length c ∧ l.length ≤ c ∧ c ≤ 9223372036854775807 := by
  rcases h.2 with ⟨rfl, h0⟩ | ⟨g, c, cur, rfl, hg1, hg, hn, hc, _⟩
  · exact ⟨none, 0, by rw [h0], by omega, by omega⟩
  · exact ⟨_, c, rfl, hn, by unfold maxLen at hc; exact hc⟩
theorem Own.form {w : World} {base : Nat} {v : Value} {l : List Nat} (h : Own w base v l) (hl : 0 < l.length) : ∃ g c, v = .slice (some ⟨g, 0, none⟩) l.length c ∧ base ≤ g ∧ g < w.heap.size ∧ l.length ≤ c ∧ c ≤ 9223372036854775807 ∧ (∀ i, i < l.length → w.cell? ⟨g, i, none⟩ = some (.int .u8 ((l.getD i 0 : Nat) : Int))) := by
  rcases h.2 with ⟨_, h0⟩ | ⟨g, c, cur, rfl, hb, hg, hn, hc, _⟩
  · omega
  · have hlt : g < w.heap.size := by
      rcases Nat.lt_or_ge g w.heap.size with h2 | h2
      · exact h2
      · rw [Array.getElem?_eq_none h2] at hg; cases hg
    exact ⟨g, c, rfl, hb, hlt, hn, by unfold maxLen at hc; exact hc, fun i hi => by rw [World.ownsRow.cellAt h i (by omega), w8_get l i hi]⟩
theorem low_lt (X : Nat) : ∀ m, ∀ x ∈ low m X, x < 256
  | 0 => by simp [low]
  | m + 1 => by
    intro x hx
    simp only [low, List.mem_cons] at hx
    rcases hx with rfl | hx
    · exact Nat.mod_lt _ (by omega)
    · exact low_lt X m x hx
/-- Bytes at a block's beginning. -/
def BCells (w : World) (g N : Nat) (P : List Nat) : Prop := ∀ i, i < N → w.cell? ⟨g, i, none⟩ = some (.int .u8 ((P.getD i 0 : Nat) : Int))
theorem BCells.below {w w' : World} {g N B : Nat} {P : List Nat} (h : BCells w g N P) (hb : Below B w w') (hg : g < B) : BCells w' g N P := fun i hi => (hb.cell (p := ⟨g, i, none⟩) hg).trans (h i hi)
theorem BCells.far {w : World} {g N : Nat} {P : List Nat} (h : BCells w g N P) {a : Addr} (ha : a.block ≠ g) (v : Value) : BCells (w.setCell a v) g N P := fun i hi => (World.cell?_setCell_far _ _ _ _ ha).trans (h i hi)
theorem cut_next (j N M c : Nat) (h : N - 64 * j = M) (hc : M ≤ c) (h2 : 64 * (j + 1) < N) : cutPlace (64 * j) c 64 = 64 * (j + 1) := by
  unfold cutPlace
  rw [if_neg (by omega)]
  omega
theorem Own64.ofBlk {w : World} {base g : Nat} {l : List Nat} {n : Nat} (h : Blk w g 91 (w64 l)) (hb : base ≤ g) (hn : l.length = n) (hl : n ≤ 1000) : Own64 w base (.slice (some ⟨g, 0, none⟩) n n) l := by
  subst hn
  exact ⟨by rw [w64_length]; omega, .inr ⟨g, l.length, (w64 l).toArray, rfl, hb, h, Nat.le_refl _, by unfold maxLen; omega, by simp [w64_length], by simp; exact List.take_of_length_le (by rw [w64_length]; exact Nat.le_refl _)⟩⟩

set_option maxRecDepth 100000 in
set_option maxHeartbeats 4000000 in
theorem refof_any (f r : ByteArray) (A : Option Addr) (n c : Nat) (p : List Nat) (w : World) (HT : Hid (Texts f r)) (HS : Hid (Src w w.heap.size A c p)) (HL : Hid (p.length = n)) (hn : n ≤ 1000000000) :
    Calls Tryd.prog 76 #[.agg #[.string f, .string r], .slice A n c] w fun e w' => e = .returned (.agg (w8 (sha p)).toArray) ∧ Below w.heap.size w w' := by
  have n1 : (n : Int) ≤ 1000000000 := by omega
  go_enter Tryd.func76, Tryd.ntmps76
  go_upto_region 2 with fail
  have H0 : Hid (Blk ((w.alloc (.cells #[.string f, .string r] 40)).alloc (.cells zsum 29)) (w.heap.size + 1) 29 (w8 noSum)) := Lib.hid (by
    have h := Blk.new (w.alloc (.cells #[.string f, .string r] 40)) 29 (w8 (List.replicate 32 0))
    rw [zsum_eq, World.size_alloc] at h
    exact h)
  have HX : Hid (Blk ((w.alloc (.cells #[.string f, .string r] 40)).alloc (.cells zsum 29)) w.heap.size 40 [.string f, .string r]) := Lib.hid ((Blk.new w 40 [.string f, .string r]).alloc _)
  have HB : Hid (Below w.heap.size w ((w.alloc (.cells #[.string f, .string r] 40)).alloc (.cells zsum 29))) := Lib.hid (((Below.refl _ _).alloc (Nat.le_refl _) _).alloc (by simp) _)
  unfold zsum at H0 HX HB
  generalize (w.alloc (.cells #[.string f, .string r] 40)).alloc (.cells _ 29) = V at H0 HX HB ⊢
  have hV : w.heap.size + 1 < V.heap.size := H0.out.lt
  have HBW := HB
  have HSV := Lib.hid (HS.out.below HB.out)
  have HN1 : Hid (([] : List Nat).length + p.length ≤ 140737488355328) := Lib.hid (by rw [HL.out]; simp; omega)
  go_wp2_with (at_builtin; refine wpList_app rfl (.tmp 13) (.tmp 14) rfl V.heap.size w.heap.size (.slice none 0 0) [] p rfl (Own.nil _ _) A n c rfl HL.out.symm HSV.out HN1.out (Nat.le_refl _) ?_)
  intro v1 w1 HO1 HG1 HU1
  have HB1 : Hid (Below V.heap.size V w1) := Lib.hid ((Below.refl _ _).grown HG1.out (Nat.le_refl _) (fun k hk => by simp [Value.ownBlock] at hk))
  clear HG1 HU1 HN1
  have HOA := Lib.hid (HO1.out.below ((Below.refl _ _).alloc (Nat.le_refl _) (.cells #[.int .u8 128] 5)))
  have HBA := Lib.hid (HB1.out.alloc HB1.out.size (.cells #[.int .u8 128] 5))
  have HS1 : Hid (Src (w1.alloc (.cells #[.int .u8 128] 5)) (w1.heap.size + 1) (some ⟨w1.heap.size, 0, none⟩) 1 [128]) := Lib.hid (Src.blk (rest := []) (by rw [List.append_nil]; exact Blk.new w1 5 (w8 [128])) (by omega) (by simp) 1 (by simp))
  have HN2 : Hid (p.length + [128].length ≤ 140737488355328) := Lib.hid (by rw [HL.out]; simp; omega)
  go_wp2_with (at_builtin; refine wpList_app rfl (.tmp 15) (.tmp 16) rfl V.heap.size (w1.heap.size + 1) v1 p [128] rfl HOA.out (some ⟨w1.heap.size, 0, none⟩) 1 1 rfl rfl HS1.out HN2.out HBA.out.size ?_)
  intro v2 w2 HO2 HG2 HU2
  have HB2 : Hid (Below V.heap.size V w2) := Lib.hid (HBA.out.grown HG2.out HBA.out.size fun g' hg' => (HOA.out.base_ hg').1)
  clear HG2 HU2 HN2 HS1 HBA HOA HB1 HO1 HSV
  obtain ⟨z, hz⟩ : ∃ z, 63 - (n + 8) % 64 = z := ⟨_, rfl⟩
  have HZ := Lib.hid hz
  have hzl : z ≤ 63 := by omega
  clear hz
  go_wp2_with fail
  go_loopw [5] (fun t wr => ∃ (k : Nat), k ≤ z ∧ Hid (Own wr V.heap.size t (p ++ 128 :: List.replicate k 0)) ∧ Hid (Below V.heap.size V wr)) (fun t _ => n + 1 + z - lenOf t)
  case atStart => exact ⟨0, Nat.zero_le _, HO2, HB2⟩
  case round =>
    obtain ⟨k, hk, HO3, HB3⟩ := hrel
    obtain ⟨Ab, cb, hv5, hcb, hcb2⟩ := HO3.out.shape
    obtain ⟨L, hL⟩ : ∃ L, (p ++ 128 :: List.replicate k 0).length = L := ⟨_, rfl⟩
    have hLa : L ≤ n + 1 + k := by
      rw [← hL]
      have := HL.out
      simp
      omega
    have hLb : n + 1 + k ≤ L := by
      rw [← hL]
      have := HL.out
      simp
      omega
    rw [hL] at hv5 hcb
    subst hv5
    have HLL := Lib.hid hL
    clear hL
    have HZ2 := HZ.out
    have L1 : (L : Int) ≤ 2000000000 := by omega
    by_cases hlt : k < z
    · have q1 : ((L : Int) % 64 == 56) = false := by simp; omega
      have q2 : ((L : Int) % 64 != 56) = true := by simp; omega
      have q3 : ¬ (L : Int) % 64 = 56 := by omega
      clear HZ2
      have HOA := Lib.hid (HO3.out.below ((Below.refl _ _).alloc (Nat.le_refl _) (.cells #[.int .u8 0] 5)))
      have HBA := Lib.hid (HB3.out.alloc HB3.out.size (.cells #[.int .u8 0] 5))
      have HS1 : Hid (Src (wr.alloc (.cells #[.int .u8 0] 5)) (wr.heap.size + 1) (some ⟨wr.heap.size, 0, none⟩) 1 [0]) := Lib.hid (Src.blk (rest := []) (by rw [List.append_nil]; exact Blk.new wr 5 (w8 [0])) (by omega) (by simp) 1 (by simp))
      have HN2 : Hid ((p ++ 128 :: List.replicate k 0).length + [0].length ≤ 140737488355328) := Lib.hid (by rw [HLL.out]; simp; omega)
      have HEQ : Hid (p ++ 128 :: (List.replicate k 0 ++ [0]) = p ++ 128 :: List.replicate (k + 1) 0) := Lib.hid (by rw [List.replicate_succ'])
      go_wp2_with (at_builtin; refine wpList_app rfl (.tmp 22) (.tmp 23) rfl V.heap.size (wr.heap.size + 1) _ _ [0] rfl HOA.out (some ⟨wr.heap.size, 0, none⟩) 1 1 rfl rfl HS1.out HN2.out HBA.out.size ?_)
      intro v4 w4 HO4 HG4 HU4
      have HB4 : Hid (Below V.heap.size V w4) := Lib.hid (HBA.out.grown HG4.out HBA.out.size fun g' hg' => (HOA.out.base_ hg').1)
      rw [HEQ.out] at HO4
      obtain ⟨A4, c4, hv4, _, _⟩ := HO4.out.shape
      have hL4 : (p ++ 128 :: List.replicate (k + 1) 0).length = L + 1 := by have := HL.out; simp; omega
      rw [hL4] at hv4
      have HV4 : Hid (lenOf v4 = L + 1) := Lib.hid (by rw [hv4]; rfl)
      clear hv4 hL4 HG4 HU4 HN2 HS1 HBA HOA q1 q2 q3
      go_wp2
      go_roundw
      case rel => exact ⟨k + 1, by omega, HO4, HB4⟩
      case measure => rw [HV4.out]; show _ < n + 1 + z - L; omega
    · obtain rfl : k = z := by omega
      have q1 : ((L : Int) % 64 == 56) = true := by simp; omega
      have q2 : ((L : Int) % 64 != 56) = false := by simp; omega
      have q3 : (L : Int) % 64 = 56 := by omega
      clear HZ2 HO2 HB2
      have hmk := made8
      go_wp2_with fail
      obtain ⟨X, hX⟩ : ∃ X, n * 8 = X := ⟨_, rfl⟩
      have hXI : (n : Int) * 8 = (X : Int) := by omega
      have hXb : X ≤ 8000000000 := by omega
      rw [hXI]
      have HXE := Lib.hid hX
      have HEN : Hid (Blk (wr.alloc (.cells (w8 [0, 0, 0, 0, 0, 0, 0, 0]).toArray 5)) wr.heap.size 5 (w8 (List.replicate (8 - 0) 0 ++ low 0 X))) := Lib.hid (Blk.new wr 5 (w8 [0, 0, 0, 0, 0, 0, 0, 0]))
      have HOE := Lib.hid (HO3.out.below ((Below.refl _ _).alloc (Nat.le_refl _) (.cells (w8 [0, 0, 0, 0, 0, 0, 0, 0]).toArray 5)))
      have HBE := Lib.hid (HB3.out.alloc HB3.out.size (.cells (w8 [0, 0, 0, 0, 0, 0, 0, 0]).toArray 5))
      have hge : V.heap.size ≤ wr.heap.size := HB3.out.size
      have HNE : Hid ((Value.slice Ab L cb).ownBlock ≠ some wr.heap.size) := Lib.hid (by intro he; have := (HO3.out.base_ he).2; omega)
      generalize wr.alloc (.cells (w8 [0, 0, 0, 0, 0, 0, 0, 0]).toArray 5) = V3 at HEN HOE HBE ⊢
      generalize wr.heap.size = ge at HEN HNE hge ⊢
      clear q1 q2 q3 hmk hX hXI HO3 HB3
      go_loopw [6, 8] (fun b i wr => ∃ (m q : Nat), m ≤ 8 ∧ i = .int .i64 (7 - (m : Int)) ∧ b = .int .u64 (q : Int) ∧ q ≤ 8000000000 ∧ Hid (X / 256 ^ m = q) ∧ Hid (Blk wr ge 5 (w8 (List.replicate (8 - m) 0 ++ low m X))) ∧ Hid (Own wr V.heap.size (.slice Ab L cb) (p ++ 128 :: List.replicate k 0)) ∧ Hid (Below V.heap.size V wr)) (fun _ i _ => (intOf i + 1).toNat)
      case atStart => exact ⟨0, X, Nat.zero_le _, rfl, rfl, hXb, Lib.hid (by simp), HEN, HOE, HBE⟩
      case round =>
        obtain ⟨m, q, hm, rfl, rfl, hq, HQ, HE, HO4, HB4⟩ := hrel
        by_cases hlt2 : m < 8
        · have hid := idx8 ge 0 8 8 (7 - m) (7 - (m : Int)) (by omega) (by omega)
          rw [Nat.zero_add] at hid
          have hcell := HE.out.cell (7 - m)
          have hfr := HE.out.frozen (7 - m)
          have hlen : 7 - m < (List.replicate (8 - m) 0 ++ low m X).length := by simp [low_length]; omega
          rw [w8_get _ _ hlen] at hcell
          have HSE := Lib.hid (set_low m X hlt2)
          rw [HQ.out] at HSE
          obtain ⟨y, hy⟩ : ∃ y, q % 256 = y := ⟨_, rfl⟩
          rw [hy] at HSE
          have hyI : (q : Int) % 256 = (y : Int) := by omega
          have hyb : y < 256 := by omega
          obtain ⟨q', hq'⟩ : ∃ q', q / 256 = q' := ⟨_, rfl⟩
          have hqI : (q : Int) / 256 = (q' : Int) := by omega
          have hqb : q' ≤ 8000000000 := by omega
          have HQ' : Hid (X / 256 ^ (m + 1) = q') := Lib.hid (by rw [Nat.pow_succ, ← Nat.div_div_eq_div_mul, HQ.out, hq'])
          have i0 : (0 : Int) ≤ 7 - (m : Int) := by omega
          clear hy hq' hlen
          go_wp2
          go_roundw
          case rel => exact ⟨m + 1, q', by omega, by go_num, rfl, hqb, HQ', Lib.hid (by have h := HE.out.set_ (7 - m) (.int .u8 (y : Int)); rw [w8_set, HSE.out] at h; exact h), Lib.hid (HO4.out.grown (only_setCell (only_refl wr (some ge)) (.inl rfl) _) HNE.out), Lib.hid (HB4.out.setCell (p := ⟨ge, 7 - m, none⟩) hge _)⟩
          case measure => clear hid hyI hqI; simp [intOf]; omega
        · obtain rfl : m = 8 := by omega
          have HPE : Hid (p ++ 128 :: (List.replicate k 0 ++ low 8 X) = pad p) := Lib.hid (by
            rw [pad_eq p (by rw [HL.out]; omega), HL.out, HXE.out, HZ.out]
            simp)
          have HSE : Hid (Src wr (ge + 1) (some ⟨ge, 0, none⟩) 8 (low 8 X)) := Lib.hid (Src.blk (rest := []) (by rw [List.append_nil]; exact HE.out) (by omega) (low_lt X 8) 8 (by rw [low_length]; exact Nat.le_refl _))
          have HN3 : Hid ((p ++ 128 :: List.replicate k 0).length + (low 8 X).length ≤ 140737488355328) := Lib.hid (by rw [HLL.out, low_length]; omega)
          have HL8 : Hid (8 = (low 8 X).length) := Lib.hid (low_length X 8).symm
          go_wp2_with (at_builtin; refine wpList_app rfl (.tmp 42) (.tmp 43) rfl V.heap.size (ge + 1) _ _ (low 8 X) rfl HO4.out (some ⟨ge, 0, none⟩) 8 8 rfl HL8.out HSE.out HN3.out HB4.out.size ?_)
          intro v5 w5 HO5 HG5 HU5
          have HB5 : Hid (Below V.heap.size V w5) := Lib.hid (HB4.out.grown HG5.out HB4.out.size fun g' hg' => (HO4.out.base_ hg').1)
          have HO6 : Hid (Own w5 V.heap.size v5 (pad p)) := Lib.hid (by have h := HO5.out; rw [← HPE.out]; simpa using h)
          obtain ⟨gb, cb5, hv5, hgb, hgbl, hcb5, hcb6, hcells⟩ := HO6.out.form (by rw [pad_length]; omega)
          obtain ⟨N, hN⟩ : ∃ N, (pad p).length = N := ⟨_, rfl⟩
          rw [hN] at hv5 hcells hcb5
          subst hv5
          have HNN := Lib.hid hN
          have HN64 : N % 64 = 0 := by rw [← hN]; exact pad_whole p
          have hNb : N ≤ 1000001000 := by rw [← hN, pad_length, HL.out]; omega
          have HBC : Hid (BCells w5 gb N (pad p)) := Lib.hid hcells
          clear HG5 HU5 HN3 HL8 HSE HPE HO4 HB4 HE HO5 HO6 hN hcells HNE HQ hcb hcb2 HLL HOE HBE HEN
          have hmk := made64
          go_wp2_with fail
          have HE0 : Hid (Blk (w5.alloc (.cells (w64 [0, 0, 0, 0, 0, 0, 0, 0]).toArray 91)) w5.heap.size 91 (w64 (firsts.take 0 ++ List.replicate (8 - 0) 0))) := Lib.hid (Blk.new w5 91 (w64 [0, 0, 0, 0, 0, 0, 0, 0]))
          have HBC0 := Lib.hid (HBC.out.below ((Below.refl _ _).alloc (Nat.le_refl _) (.cells (w64 [0, 0, 0, 0, 0, 0, 0, 0]).toArray 91)) hgbl)
          have HB6 := Lib.hid (HB5.out.alloc HB5.out.size (.cells (w64 [0, 0, 0, 0, 0, 0, 0, 0]).toArray 91))
          have hgh : V.heap.size ≤ w5.heap.size := HB5.out.size
          generalize w5.alloc (.cells (w64 [0, 0, 0, 0, 0, 0, 0, 0]).toArray 91) = V6 at HE0 HBC0 HB6 ⊢
          generalize w5.heap.size = gh at HE0 hgbl hgh ⊢
          have hgne : gb ≠ gh := by omega
          clear hmk HBC HB5
          go_loopw [10] (fun i wr => ∃ (k : Nat), k ≤ 8 ∧ i = .int .i64 k ∧ Hid (Blk wr gh 91 (w64 (firsts.take k ++ List.replicate (8 - k) 0))) ∧ Hid (BCells wr gb N (pad p)) ∧ Hid (Below V.heap.size V wr)) (fun i _ => 8 - (intOf i).toNat)
          case atStart => exact ⟨0, Nat.zero_le _, rfl, HE0, HBC0, HB6⟩
          case round =>
            obtain ⟨k3, hk3, rfl, HE3, HBC3, HB7⟩ := hrel
            have HX3 := Lib.hid (HX.out.below HB7.out HX.out.lt)
            by_cases hlt3 : k3 < 8
            · have c0 := HX3.out.cell 0
              have tid := idx64 gh 0 8 8 k3 (k3 : Int) rfl hlt3
              rw [Nat.zero_add] at tid
              have hcell := HE3.out.cell k3
              have hfr := HE3.out.frozen k3
              have hlen : k3 < (firsts.take k3 ++ List.replicate (8 - k3) 0).length := by
                have : firsts.length = 8 := rfl
                simp
                omega
              rw [w64_get _ _ hlen] at hcell
              have HSE := Lib.hid (firsts_set k3 hlt3)
              obtain ⟨y, hy⟩ : ∃ y, firsts.getD k3 0 = y := ⟨_, rfl⟩
              rw [hy] at HSE
              have HAT : Hid (∀ W : World, Calls Tryd.prog 99 #[.string f, .int .i64 (k3 : Int)] W fun e w' => e = .returned (.int .u64 (y : Int)) ∧ W = w') := Lib.hid fun W => by
                have h := at_any f k3 8 W (Lib.hid HT.out.fs) (Lib.hid HT.out.fl) hlt3 (by omega)
                rw [HT.out.fk k3 hlt3, hy] at h
                exact h
              have i1 : (0 : Int) ≤ (k3 : Int) := by omega
              have i2 : (k3 : Int) < 8 := by omega
              clear hy hlen
              go_wp2_with fail
              refine (HAT.out _).mono ?_
              rintro e w' ⟨rfl, rfl⟩
              go_wp2
              go_roundw
              case rel => exact ⟨k3 + 1, by omega, by go_num, Lib.hid (by have h := HE3.out.set_ k3 (.int .u64 (y : Int)); rw [← w64_set, HSE.out] at h; exact h), Lib.hid (HBC3.out.far (fun h => hgne h.symm) _), Lib.hid (HB7.out.setCell (p := ⟨gh, k3, none⟩) hgh _)⟩
              case measure => simp [intOf]; omega
            · obtain rfl : k3 = 8 := by omega
              rw [show ((8 : Nat) : Int) = 8 from rfl]
              have HO7 : Hid (Own64 wr V.heap.size (.slice (some ⟨gh, 0, none⟩) 8 8) (wordsAt (pad p) 0)) := Lib.hid (Own64.ofBlk (l := firsts) (by exact HE3.out) hgh rfl (by omega))
              have hz0 : N - 64 * 0 = N := by omega
              go_wp2_with fail
              go_loopw [5, 9] (fun b t wr => ∃ (j o M c' : Nat), 64 * j ≤ N ∧ b = .slice (some ⟨gb, o, none⟩) M c' ∧ M ≤ c' ∧ c' ≤ 9223372036854775807 ∧ Hid (N - 64 * j = M) ∧ Hid (64 * j < N → o = 64 * j) ∧ Hid (Own64 wr V.heap.size t (wordsAt (pad p) j)) ∧ Hid (BCells wr gb N (pad p)) ∧ gb < wr.heap.size ∧ Hid (Below V.heap.size V wr)) (fun b _ _ => lenOf b)
              case atStart => exact ⟨0, 0, N, cb5, by omega, rfl, hcb5, hcb6, Lib.hid hz0, Lib.hid (fun _ => rfl), HO7, HBC3, Nat.lt_trans hgbl HE3.out.lt, HB7⟩
              case round =>
                obtain ⟨j, o, M, c', hj, rfl, hMc, hc', HM, HOO, HO8, HBC4, hgb4, HB8⟩ := hrel
                have hM := HM.out
                have HX4 := Lib.hid (HX.out.below HB8.out HX.out.lt)
                by_cases hlt4 : 64 * j < N
                · obtain rfl : o = 64 * j := HOO.out hlt4
                  have hM64 : 64 ≤ M := by omega
                  have m1 : (0 : Int) < (M : Int) := by omega
                  have m2 : (64 : Int) ≤ (M : Int) := by omega
                  have c0 := HX4.out.cell 0
                  have c1 := HX4.out.cell 1
                  have hs1 : ∀ W, (Instr.slice 30 (.slice (some ⟨gb, 64 * j, none⟩) M c') none (some (.int .i64 64)) none).run Tryd.prog W = .ok (.slice (some ⟨gb, 64 * j, none⟩) 64 c') W := fun W => cutLo _ _ _ 64 (by omega) W
                  have hs2 : ∀ W, (Instr.slice 30 (.slice (some ⟨gb, 64 * j, none⟩) M c') (some (.int .i64 64)) none none).run Tryd.prog W = .ok (.slice (some ⟨gb, cutPlace (64 * j) c' 64, none⟩) (M - 64) (c' - 64)) W := fun W => cutHi gb (64 * j) M c' 64 hM64 hMc W
                  have hwl : (wordsAt (pad p) j).length = 8 := wordsAt_length _ _
                  obtain ⟨g9, c9, hv9, hg9, hg9l, hc9, hc9b, hcells9, _⟩ := HO8.out.form (by omega)
                  rw [hwl] at hv9 hcells9 hc9
                  subst hv9
                  have HHD : Hid (Handed wr.drew g9 0 gb (64 * j) (wordsAt (pad p) j) (((pad p).drop (64 * j)).take 64) r) := Lib.hid ⟨hwl, wordsAt_lt _ _, hg9l, fun i hi => by rw [Nat.zero_add]; exact hcells9 i hi, pad_block p j (by rw [HNN.out]; exact hlt4), fun x hx => pad_lt p HS.out.lt (by rw [HL.out]; omega) x (List.mem_of_mem_drop (List.mem_of_mem_take hx)), hgb4, fun i hi => by rw [pad_block_get p j i hi]; exact HBC4.out (64 * j + i) (by omega), HT.out.rs, HT.out.rl, HT.out.rk⟩
                  have h64c : 64 ≤ c' := by omega
                  have HCN : Hid (64 * (j + 1) < N → cutPlace (64 * j) c' 64 = 64 * (j + 1)) := Lib.hid (cut_next j N M c' hM hMc)
                  have hM2 : N - 64 * (j + 1) = M - 64 := by omega
                  have HM2 := Lib.hid hM2
                  clear hM hM2 hwl hcells9
                  go_wp2_with fail
                  go_still_tail 4, (by kernel_rfl)
                  change wpList _ _ _ _ _ wr.drew
                  have HBC5 : Hid (BCells wr.drew gb N (pad p)) := Lib.hid HBC4.out
                  have HB9 : Hid (Below V.heap.size V wr.drew) := Lib.hid HB8.out.drew
                  have hgb5 : gb < wr.drew.heap.size := hgb4
                  clear c0 c1 hs1
                  generalize wr.drew = Vd at HHD HBC5 HB9 hgb5 ⊢
                  go_wp2_with fail
                  refine (block_any f r g9 0 c9 gb (64 * j) c' _ _ Vd HHD hc9 h64c).mono ?_
                  rintro e w7 ⟨v7, rfl, hO9, hB10⟩
                  have HO9 := Lib.hid (hO9.lower HB9.out.size)
                  have HBC6 := Lib.hid (HBC5.out.below hB10 hgb5)
                  have HB11 := Lib.hid (HB9.out.trans (hB10.mono HB9.out.size))
                  have hgb6 : gb < w7.heap.size := Nat.lt_of_lt_of_le hgb5 hB10.size
                  clear hO9 hB10
                  go_wp2
                  go_roundw
                  case rel => exact ⟨j + 1, _, M - 64, c' - 64, by omega, rfl, by omega, by omega, HM2, HCN, HO9, HBC6, hgb6, HB11⟩
                  case measure => show M - 64 < M; omega
                · have hj2 : 64 * j = N := by omega
                  have hM0 : M = 0 := by omega
                  subst hM0
                  have HJ : Hid (sha p = (wordsAt (pad p) j).flatMap four) := Lib.hid (by
                    unfold sha
                    rw [HNN.out, ← hj2, Nat.mul_div_cancel_left j (by omega)])
                  obtain ⟨ws, hws⟩ : ∃ ws, wordsAt (pad p) j = ws := ⟨_, rfl⟩
                  have hwl : ws.length = 8 := by rw [← hws]; exact wordsAt_length _ _
                  have HWL := Lib.hid hwl
                  have HWB : Hid (∀ x ∈ ws, x < 4294967296) := Lib.hid (by rw [← hws]; exact wordsAt_lt _ _)
                  rw [hws] at HJ HO8
                  obtain ⟨g9, c9, hv9, hg9, hg9l, hc9, hc9b, hcells9, hfr9⟩ := HO8.out.form (by omega)
                  rw [hwl] at hv9 hcells9 hc9
                  subst hv9
                  have HHR : Hid (HRow wr g9 (left ws 0)) := Lib.hid fun j hj => ⟨by rw [left_zero]; exact hcells9 j hj, hfr9 j⟩
                  clear hws hwl hcells9 hfr9 hj2 hM HM HOO
                  go_wp2_with fail
                  have HD0 : Hid (Blk (wr.alloc (.cells zsum 29)) wr.heap.size 29 (w8 (List.replicate (32 - 0) 0 ++ (sha p).drop (32 - 0)))) := Lib.hid (by
                    have h := Blk.new wr 29 (w8 (List.replicate 32 0))
                    rw [zsum_eq] at h
                    rw [show List.replicate (32 - 0) 0 ++ (sha p).drop (32 - 0) = List.replicate 32 0 by rw [List.drop_eq_nil_of_le (by rw [sha_length]; omega), List.append_nil]]
                    exact h)
                  have HHR0 := Lib.hid (HHR.out.alloc (.cells zsum 29) hg9l)
                  have HB12 := Lib.hid (HB8.out.alloc HB8.out.size (.cells zsum 29))
                  have hgd : V.heap.size ≤ wr.heap.size := HB8.out.size
                  unfold zsum at HD0 HHR0 HB12
                  generalize wr.alloc (.cells _ 29) = V8 at HD0 HHR0 HB12 ⊢
                  generalize wr.heap.size = gd at HD0 hg9l hgd ⊢
                  have hne9 : g9 ≠ gd := by omega
                  clear HB8 HO8 HHR HX4 HBC4 hgb4
                  go_loopw [12] (fun i wr => ∃ (m : Nat), m ≤ 32 ∧ i = .int .i64 (31 - (m : Int)) ∧ Hid (Blk wr gd 29 (w8 (List.replicate (32 - m) 0 ++ (sha p).drop (32 - m)))) ∧ Hid (HRow wr g9 (left ws m)) ∧ Hid (Below V.heap.size V wr)) (fun i _ => (intOf i + 1).toNat)
                  case atStart => exact ⟨0, Nat.zero_le _, rfl, HD0, HHR0, HB12⟩
                  case round =>
                    obtain ⟨m, hm, rfl, HD, HHR, HB⟩ := hrel
                    by_cases hlt5 : m < 32
                    · obtain ⟨q, hq⟩ : ∃ q, (31 - m) / 4 = q := ⟨_, rfl⟩
                      have hq8 : q < 8 := by omega
                      have hqI : (31 - (m : Int)) / 4 = (q : Int) := by omega
                      obtain ⟨ch, fh⟩ := HHR.out q hq8
                      obtain ⟨x, hx⟩ : ∃ x, left ws m q = x := ⟨_, rfl⟩
                      rw [hx] at ch
                      have hxb : x < 4294967296 := by rw [← hx]; exact left_lt ws m q HWB.out
                      obtain ⟨y, hy⟩ : ∃ y, x % 256 = y := ⟨_, rfl⟩
                      obtain ⟨x', hx'⟩ : ∃ x', x / 256 = x' := ⟨_, rfl⟩
                      have hyI : (x : Int) % 256 = (y : Int) := by omega
                      have hxI : (x : Int) / 256 = (x' : Int) := by omega
                      have HSD : Hid ((List.replicate (32 - m) 0 ++ (sha p).drop (32 - m)).set (31 - m) y = List.replicate (32 - (m + 1)) 0 ++ (sha p).drop (32 - (m + 1))) := Lib.hid (set_drop (sha p) m y (sha_length p) hlt5 (by rw [HJ.out, left_byte ws m HWL.out HWB.out hlt5, hq, hx, hy]))
                      have HSH : Hid (∀ (W : World), HRow W g9 (left ws m) → HRow (W.setCell ⟨g9, q, none⟩ (.int .u64 (x' : Int))) g9 (left ws (m + 1))) := Lib.hid fun W h => by
                        have h2 := h.set hlt5 x' (by rw [hq, hx, hx'])
                        rw [hq] at h2
                        exact h2
                      have tid := idx64 g9 0 8 c9 q (q : Int) rfl hq8
                      rw [Nat.zero_add] at tid
                      have hdc := HD.out.cell (31 - m)
                      have hdf := HD.out.frozen (31 - m)
                      have hlen : 31 - m < (List.replicate (32 - m) 0 ++ (sha p).drop (32 - m)).length := by simp [sha_length]; omega
                      rw [w8_get _ _ hlen] at hdc
                      have i0 : (0 : Int) ≤ 31 - (m : Int) := by omega
                      have i1 : 31 - (m : Int) < 32 := by omega
                      have i2 : (31 - (m : Int)).toNat = 31 - m := by omega
                      have yb : (y : Int) < 256 := by omega
                      have hch2 : (wr.setCell ⟨gd, 31 - m, none⟩ (.int .u8 (y : Int))).cell? ⟨g9, q, none⟩ = some (.int .u64 (x : Int)) := (World.cell?_setCell_far _ _ _ _ (by intro h; exact hne9 h.symm)).trans ch
                      clear hq hx hy hx' hlen
                      go_wp2
                      go_roundw
                      case rel => exact ⟨m + 1, by omega, by go_num, Lib.hid (by have h := (HD.out.set_ (31 - m) (.int .u8 (y : Int))).far (p := ⟨g9, q, none⟩) (fun h => hne9 h.symm) (.int .u64 (x' : Int)); rw [w8_set, HSD.out] at h; exact h), Lib.hid (HSH.out _ (HHR.out.far (p := ⟨gd, 31 - m, none⟩) (fun h => hne9 h.symm) _)), Lib.hid ((HB.out.setCell (p := ⟨gd, 31 - m, none⟩) hgd _).setCell (p := ⟨g9, q, none⟩) hg9 _)⟩
                      case measure => clear tid hqI hyI hxI hdc hch2 ch i2; simp [intOf]; omega
                    · obtain rfl : m = 32 := by omega
                      have HDF : Hid (Blk wr gd 29 (w8 (sha p))) := Lib.hid (by have h := HD.out; simpa using h)
                      have HRF := Lib.hid (H0.out.below HB.out H0.out.lt)
                      have HRG2 := Lib.hid HDF.out.all
                      have HS5 : Hid ((Tryd.prog.info? 29).map (·.size) = some (w8 (sha p)).length) := Lib.hid (by rw [w8_length, sha_length]; kernel_rfl)
                      have HS6 : Hid ((Tryd.prog.info? 29).map (·.size) = some (w8 (sha p)).toArray.size) := Lib.hid (by rw [List.size_toArray, w8_length, sha_length]; kernel_rfl)
                      have HZ6 : Hid ((w8 noSum).toArray.size = (w8 (sha p)).toArray.size) := Lib.hid (by rw [List.size_toArray, List.size_toArray, w8_length, w8_length, sha_length]; simp [noSum])
                      have HO6 := Lib.hid (all_oneCell_toArray (w8_one (sha p)))
                      clear HD
                      go_wp2_with (first | (refine wpList_load_mid rfl 29 (.tmp 11) rfl gd 0 rfl (w8 (sha p)) _ HRG2.out Tryd.underlying29 rfl HS5.out ?_) | (refine wpList_store_row rfl 29 (.tmp 4) (.tmp 90) rfl (w.heap.size + 1) (w8 (sha p)).toArray rfl rfl 29 _ HRF.out HS6.out HZ6.out HO6.out ?_))
                      exact bodyPost_ret (v := .agg (w8 (sha p)).toArray) (results_cell_row Tryd.results76 _ _ (w.heap.size + 1) 29 (w8 (sha p)).toArray (0, 0) _ rfl (HRF.out.setRow _) Tryd.underlying29 rfl HS6.out) rfl ⟨rfl, below_setRow (HBW.out.trans (HB.out.mono (by omega))) (by omega) _⟩
end Go.Proofs.YtkonokjhpddbfaaDoor
namespace Go.Proofs.YtkonokjhpddbfaaDoor
open Go.RowKit
set_option linter.unusedVariables false

theorem text_take (d : Nat) (ps : List (List Nat)) (k : Nat) : ([d, ps.length % 256] ++ laidParts (ps.take k)).length = 2 + (ps.take k).flatten.length + 4 * (ps.take k).length := by
  rw [List.length_append, laidParts_length]
  simp only [List.length_cons, List.length_nil]
  omega

theorem Own.two (w : World) (a b : Nat) : Own (w.alloc (.cells (w8 [a, b]).toArray 5)) w.heap.size (.slice (some ⟨w.heap.size, 0, none⟩) 2 2) [a, b] := World.ownsRow_lit w (w8 [a, b]).toArray 2 (Nat.le_refl _) (by unfold maxLen; omega) rfl

set_option maxRecDepth 100000 in
set_option maxHeartbeats 4000000 in
theorem text_any (d m c b : Nat) (A : Option Addr) (ps : List (List Nat)) (w : World) (hd : d < 256) (HP : Hid (Parts w b A ps)) (HM : Hid (ps.length = m)) (hm : m ≤ 1000000) (HN : Hid (ps.flatten.length ≤ 1000000000)) :
    Calls Tryd.prog 96 #[.int .u8 (d : Int), .slice A m c] w fun e w' => ∃ v, e = .returned v ∧ Own w' w.heap.size v (text d ps) ∧ Below w.heap.size w w' := by
  have d1 : (d : Int) ≤ 255 := by omega
  obtain ⟨mm, hmm⟩ : ∃ mm, m % 256 = mm := ⟨_, rfl⟩
  have hmI : (m : Int) % 256 = (mm : Int) := by omega
  have hmm2 : mm < 256 := by omega
  have HMM : Hid (ps.length % 256 = mm) := Lib.hid (by rw [HM.out]; exact hmm)
  clear hmm
  go_enter Tryd.func96, Tryd.ntmps96
  go_wp2_with fail
  have HO0 : Hid (Own (w.alloc (.cells #[.int .u8 (d : Int), .int .u8 (mm : Int)] 5)) w.heap.size (.slice (some ⟨w.heap.size, 0, none⟩) 2 2) [d, mm]) := Lib.hid (Own.two w d mm)
  have HB0 : Hid (Below w.heap.size w (w.alloc (.cells #[.int .u8 (d : Int), .int .u8 (mm : Int)] 5))) := Lib.hid ((Below.refl _ _).alloc (Nat.le_refl _) _)
  generalize w.alloc (.cells #[.int .u8 (d : Int), .int .u8 (mm : Int)] 5) = w0 at HO0 HB0 ⊢
  clear hmI
  go_loopw [6, 5, 7] (fun i t _ wr => ∃ (k : Nat), k ≤ m ∧ i = .int .i64 k ∧ Hid (Own wr w.heap.size t ([d, mm] ++ laidParts (ps.take k))) ∧ Hid (Below w.heap.size w wr)) (fun i _ _ _ => m - (intOf i).toNat)
  case atStart => exact ⟨0, Nat.zero_le _, rfl, HO0, HB0⟩
  case round =>
    obtain ⟨k, hk, rfl, HO, HW⟩ := hrel
    by_cases hlt : k < m
    · have hkp : k < ps.length := by rw [HM.out]; exact hlt
      obtain ⟨g, off, Ai, ci, hA, hg, hcell, hci, hsrc⟩ := HP.out.at2 HW.out k hkp (B := w.heap.size) (Nat.le_refl _)
      obtain ⟨x, hx⟩ : ∃ x, ps.getD k [] = x := ⟨_, rfl⟩
      obtain ⟨n, hn⟩ : ∃ n, x.length = n := ⟨_, rfl⟩
      have hnb : n ≤ 1000000000 := by have h1 := flatten_part ps k x hkp hx; have h2 := HN.out; omega
      have HTK := Lib.hid (laidParts_take ps k x hkp hx)
      have HLE : Hid (([d, mm] ++ laidParts (ps.take k)).length + (four n).length + x.length ≤ 140737488355328) := Lib.hid (by
        have h1 := flatten_take_le ps k
        have h2 := HN.out
        have e4 : (four n).length = 4 := rfl
        have e2 : [d, mm].length = 2 := rfl
        have e3 := Nat.min_le_left k ps.length
        rw [List.length_append, laidParts_length, List.length_take, e4, e2, hn]
        omega)
      rw [hx, hn] at hcell
      rw [hx] at hsrc
      have HX := Lib.hid hn
      have HSR := Lib.hid (hsrc.below HW.out)
      have n1 : (n : Int) ≤ 1000000000 := by omega
      obtain ⟨f0, e0⟩ : ∃ y, n / 16777216 = y := ⟨_, rfl⟩
      obtain ⟨f1, e1⟩ : ∃ y, n / 65536 % 256 = y := ⟨_, rfl⟩
      obtain ⟨f2, e2⟩ : ∃ y, n / 256 % 256 = y := ⟨_, rfl⟩
      obtain ⟨f3, e3⟩ : ∃ y, n % 256 = y := ⟨_, rfl⟩
      have i0 : (n : Int) / 16777216 % 256 = (f0 : Int) := by omega
      have i1 : (n : Int) / 65536 % 256 = (f1 : Int) := by omega
      have i2 : (n : Int) / 256 % 256 = (f2 : Int) := by omega
      have i3 : (n : Int) % 256 = (f3 : Int) := by omega
      have i4 : (n : Int) / 16777216 = (f0 : Int) := by omega
      have HF4 : Hid (four n = [f0, f1, f2, f3]) := Lib.hid (by unfold four; rw [e0, e1, e2, e3])
      have HSW := Lib.hid hsrc
      have hcw : w.cell? ⟨g, off + k, none⟩ = some (.slice Ai n ci) ∧ g < w.heap.size := by
        rcases HP.out.at_ with h0 | ⟨g', off', hA', hg', _, _⟩
        · rw [h0] at hkp; simp at hkp
        · rw [hA] at hA'
          injection hA' with hA'
          injection hA' with e1 e2
          subst e1; subst e2
          exact ⟨by rw [← HW.out.cell (p := ⟨g, off + k, none⟩) hg']; exact hcell, hg'⟩
      obtain ⟨hcw1, hcw2⟩ := hcw
      have HCW := Lib.hid hcw1
      have HOA := Lib.hid (HO.out.below ((Below.refl _ _).alloc (Nat.le_refl _) (.cells #[.int .u8 (f0 : Int), .int .u8 (f1 : Int), .int .u8 (f2 : Int), .int .u8 (f3 : Int)] 5)))
      have HWA := Lib.hid (HW.out.alloc HW.out.size (.cells #[.int .u8 (f0 : Int), .int .u8 (f1 : Int), .int .u8 (f2 : Int), .int .u8 (f3 : Int)] 5))
      have HS4 : Hid (Src (wr.alloc (.cells #[.int .u8 (f0 : Int), .int .u8 (f1 : Int), .int .u8 (f2 : Int), .int .u8 (f3 : Int)] 5)) (wr.heap.size + 1) (some ⟨wr.heap.size, 0, none⟩) 4 [f0, f1, f2, f3]) := Lib.hid (Src.blk (rest := []) (by rw [List.append_nil]; exact Blk.new wr 5 (w8 [f0, f1, f2, f3])) (by omega) (by rw [← HF4.out]; exact four_lt n (by omega)) 4 (by simp))
      have HL4 : Hid (([d, mm] ++ laidParts (ps.take k)).length + [f0, f1, f2, f3].length ≤ 140737488355328) := Lib.hid (by have h1 := HLE.out; rw [HF4.out] at h1; omega)
      have HLX : Hid (([d, mm] ++ laidParts (ps.take k) ++ [f0, f1, f2, f3]).length + x.length ≤ 140737488355328) := Lib.hid (by have h1 := HLE.out; rw [HF4.out] at h1; rw [List.length_append]; omega)
      subst hA
      clear hx hn hsrc hkp e0 e1 e2 e3 hcw1
      go_upto_region 7 with (at_builtin; refine wpList_app rfl (.tmp 24) (.tmp 36) rfl w.heap.size (wr.heap.size + 1) _ _ [f0, f1, f2, f3] rfl HOA.out (some ⟨wr.heap.size, 0, none⟩) 4 4 rfl rfl HS4.out HL4.out HWA.out.size ?_; intro v2 w2 HO2 HG2 HL2)
      have HW2 : Hid (Below w.heap.size w w2) := Lib.hid (HWA.out.grown HG2.out HWA.out.size fun g' hg' => (HOA.out.base_ hg').1)
      have hc2 : w2.cell? ⟨g, off + k, none⟩ = some (.slice Ai n ci) := (HW2.out.cell (p := ⟨g, off + k, none⟩) hcw2).trans HCW.out
      have hg2 : g < w2.heap.size := Nat.lt_of_lt_of_le hcw2 HW2.out.size
      have HSX := Lib.hid (HSW.out.below HW2.out)
      clear hcell HOA HWA HS4 HG2 HL2 i0 i1 i2 i3 i4 hg
      go_wp2_with (at_builtin; refine wpList_app rfl (.tmp 38) (.tmp 42) rfl w.heap.size w.heap.size _ _ x rfl HO2.out Ai n ci rfl HX.out.symm HSX.out HLX.out HW2.out.size ?_)
      intro v3 w3 HO3 HG3 HL3
      have HW3 : Hid (Below w.heap.size w w3) := Lib.hid (HW2.out.grown HG3.out HW2.out.size fun g' hg' => (HO2.out.base_ hg').1)
      have HO4 : Hid (Own w3 w.heap.size v3 ([d, mm] ++ laidParts (ps.take (k + 1)))) := Lib.hid (by
        have h := HO3.out
        have e : [d, mm] ++ laidParts (ps.take (k + 1)) = d :: mm :: (laidParts (ps.take k) ++ f0 :: f1 :: f2 :: f3 :: x) := by rw [HTK.out, HX.out, HF4.out]; simp
        rw [e]
        exact h)
      clear HO3 HG3 HL3 hc2
      go_wp2
      go_roundw
      case rel =>
        exact ⟨k + 1, by omega, by go_num, HO4, HW3⟩
      case measure => simp [intOf]; omega
    · have htk : ps.take k = ps := List.take_of_length_le (by rw [HM.out]; omega)
      rw [htk, show [d, mm] ++ laidParts ps = text d ps by unfold text; rw [HMM.out]] at HO
      clear htk
      go_wp2
      go_ret
      exact ⟨_, rfl, HO.out, HW.out⟩
end Go.Proofs.YtkonokjhpddbfaaDoor
namespace Go.Proofs.YtkonokjhpddbfaaDoor
open Go.RowKit
set_option linter.unusedVariables false

theorem Blk.setCells {g : Nat} {t : TypeId} : ∀ (vs : List Value) (w : World) (pre old : List Value), old.length = vs.length → Blk w g t (pre ++ old) → Blk (w.setCells g pre.length vs) g t (pre ++ vs)
  | [], w, pre, old, hl, h => by
    have : old = [] := List.eq_nil_of_length_eq_zero (by simpa using hl)
    subst this
    exact h
  | v :: r, w, pre, [], hl, h => by simp at hl
  | v :: r, w, pre, x :: old, hl, h => by
    have h1 := h.set_ pre.length v
    rw [List.set_append_right _ _ (Nat.le_refl _), Nat.sub_self, List.set_cons_zero] at h1
    have h2 := Blk.setCells r (w.setCell ⟨g, pre.length, none⟩ v) (pre ++ [v]) old (by simpa using hl) (by simpa using h1)
    simp only [List.length_append, List.length_cons, List.length_nil, List.append_assoc, List.cons_append, List.nil_append] at h2
    exact h2
theorem below_setCells {B g : Nat} {w0 : World} : ∀ (vs : List Value) (o : Nat) (w : World), Below B w0 w → B ≤ g → Below B w0 (w.setCells g o vs)
  | [], _, _, h, _ => h
  | v :: r, o, w, h, hg => below_setCells r (o + 1) _ (h.setCell (p := ⟨g, o, none⟩) hg v) hg

theorem text_lt (d : Nat) (ps : List (List Nat)) (hd : d < 256) (h : ∀ p ∈ ps, p.length < 4294967296 ∧ ∀ x ∈ p, x < 256) : ∀ x ∈ text d ps, x < 256 := by
  intro x hx
  simp only [text, laidParts, List.mem_append, List.mem_cons, List.mem_flatMap, List.not_mem_nil, or_false] at hx
  rcases hx with (rfl | rfl) | ⟨p, hp, hx | hx⟩
  · exact hd
  · exact Nat.mod_lt _ (by omega)
  · exact four_lt _ (h p hp).1 x hx
  · exact (h p hp).2 x hx

theorem info24 : (Tryd.prog.info? 29).map (·.size) = some 32 := by kernel_rfl
theorem Own.srcOf {w : World} {base b : Nat} {v : Value} {l : List Nat} (h : Own w base v l) (hb : w.heap.size ≤ b) (hl : ∀ x ∈ l, x < 256) : ∃ A c, v = .slice A l.length c ∧ Src w b A c l := by
  obtain ⟨A, c, h1, _, h2⟩ := h.src (b := b) (by intro he; have := (h.base_ he).2; omega) hl
  exact ⟨A, c, h1, h2⟩

set_option maxRecDepth 100000 in
set_option maxHeartbeats 2000000 in
theorem reffor_any (f r : ByteArray) (d m c b : Nat) (A : Option Addr) (ps : List (List Nat)) (w : World) (HX : Hid (Texts f r)) (hd : d < 256) (HP : Hid (Parts w b A ps)) (HM : Hid (ps.length = m)) (hm : m ≤ 1000000) (HN : Hid (ps.flatten.length ≤ 900000000)) (HE : Hid (∀ p ∈ ps, ∀ x ∈ p, x < 256)) :
    Calls Tryd.prog 70 #[.agg #[.string f, .string r], .int .u8 (d : Int), .slice A m c] w fun e w' => e = .returned (.agg (w8 (sha (text d ps))).toArray) ∧ Below w.heap.size w w' := by
  go_enter Tryd.func70, Tryd.ntmps70
  go_wp2_with fail
  have H0 : Hid (Blk ((w.alloc (.cells #[.string f, .string r] 40)).alloc (.cells zsum 29)) (w.heap.size + 1) 29 (w8 noSum)) := Lib.hid (by
    have h := Blk.new (w.alloc (.cells #[.string f, .string r] 40)) 29 (w8 (List.replicate 32 0))
    rw [zsum_eq, World.size_alloc] at h
    exact h)
  have HBX : Hid (Blk ((w.alloc (.cells #[.string f, .string r] 40)).alloc (.cells zsum 29)) w.heap.size 40 [.string f, .string r]) := Lib.hid ((Blk.new w 40 [.string f, .string r]).alloc _)
  have HB : Hid (Below w.heap.size w ((w.alloc (.cells #[.string f, .string r] 40)).alloc (.cells zsum 29))) := Lib.hid (((Below.refl _ _).alloc (Nat.le_refl _) _).alloc (by simp) _)
  unfold zsum at H0 HBX HB
  generalize (w.alloc (.cells #[.string f, .string r] 40)).alloc (.cells _ 29) = V at H0 HBX HB ⊢
  have hV : w.heap.size + 1 < V.heap.size := H0.out.lt
  have HEach : Hid (∀ p ∈ ps, p.length < 4294967296 ∧ ∀ x ∈ p, x < 256) := Lib.hid fun p hp => ⟨by
    obtain ⟨i, hi, he⟩ := List.mem_iff_getElem.1 hp
    have h1 := flatten_part ps i p hi (by simp [List.getD, hi, he])
    have := HN.out
    omega, HE.out p hp⟩
  have HTX : Hid (∀ W, Below V.heap.size V W → Calls Tryd.prog 96 #[.int .u8 (d : Int), .slice A m c] W fun e w' => ∃ A' c', e = .returned (.slice A' (text d ps).length c') ∧ Src w' w'.heap.size A' c' (text d ps) ∧ Below V.heap.size V w') := Lib.hid fun W hW => by
    have hWW : Below w.heap.size w W := HB.out.trans (hW.mono (by omega))
    refine (text_any d m c b A ps W hd (Lib.hid (HP.out.below hWW)) HM hm (Lib.hid (by have := HN.out; omega))).mono ?_
    rintro e w' ⟨v, rfl, hO, hB⟩
    obtain ⟨A', c', rfl, hs⟩ := hO.srcOf (Nat.le_refl _) (text_lt d ps hd HEach.out)
    exact ⟨A', c', rfl, hs, hW.trans (hB.mono hW.size)⟩
  have HLT : Hid ((text d ps).length ≤ 1000000000) := Lib.hid (by rw [text_length]; have := HN.out; have := HM.out; omega)
  have HOF : Hid (∀ (W : World) (A' : Option Addr) (c' : Nat), Src W W.heap.size A' c' (text d ps) → Below V.heap.size V W → Calls Tryd.prog 76 #[.agg #[.string f, .string r], .slice A' (text d ps).length c'] W fun e w' => e = .returned (.agg (w8 (sha (text d ps))).toArray) ∧ Below V.heap.size V w') := Lib.hid fun W A' c' hs hW =>
    (refof_any f r A' (text d ps).length c' (text d ps) W HX (Lib.hid hs) (Lib.hid rfl) HLT.out).mono fun e w' ⟨he, hB⟩ => ⟨he, hW.trans (hB.mono hW.size)⟩
  have HK : Hid (∀ W, Below V.heap.size V W → W.cell? ⟨w.heap.size, 0, none⟩ = some (.string f) ∧ W.cell? ⟨w.heap.size, 1, none⟩ = some (.string r)) := Lib.hid fun W hW => ⟨(HBX.out.below hW (by omega)).cell 0, (HBX.out.below hW (by omega)).cell 1⟩
  have HRS : Hid (∀ W, Below V.heap.size V W → Blk W (w.heap.size + 1) 29 (w8 noSum)) := Lib.hid fun W hW => H0.out.below hW (by omega)
  have HS6 : Hid ((Tryd.prog.info? 29).map (·.size) = some (w8 (sha (text d ps))).toArray.size) := Lib.hid (by rw [List.size_toArray, w8_length, sha_length]; exact info24)
  have hs7 : (Tryd.prog.info? 29).map (·.size) = some (w8 (sha (text d ps))).length := by rw [w8_length, sha_length]; exact info24
  have hone := w8_one (sha (text d ps))
  have HLN : Hid ((w8 noSum).length = (w8 (sha (text d ps))).length) := Lib.hid (by rw [w8_length, w8_length, sha_length]; simp [noSum])
  have HTH : Hid (∀ W, Below V.heap.size V W → W.there (w.heap.size + 1) 0 (w8 (sha (text d ps))).length) := Lib.hid fun W hW => (HRS.out W hW).there 0 _ (by rw [HLN.out]; omega)
  have HBK : Hid (∀ W, Below V.heap.size V W → Blk (W.setCells (w.heap.size + 1) 0 (w8 (sha (text d ps)))) (w.heap.size + 1) 29 (w8 (sha (text d ps)))) := Lib.hid fun W hW => Blk.setCells (w8 (sha (text d ps))) W [] (w8 noSum) HLN.out (HRS.out W hW)
  have HKS : Hid (∀ W, Below V.heap.size V W → (W.setCells (w.heap.size + 1) 0 (w8 (sha (text d ps)))).cell? ⟨w.heap.size, 0, none⟩ = some (.string f) ∧ (W.setCells (w.heap.size + 1) 0 (w8 (sha (text d ps)))).cell? ⟨w.heap.size, 1, none⟩ = some (.string r)) := Lib.hid fun W hW => ⟨(World.cell?_setCells_out _ _ _ _ _ (by intro h; simp at h)).trans (HK.out W hW).1, (World.cell?_setCells_out _ _ _ _ _ (by intro h; simp at h)).trans (HK.out W hW).2⟩
  obtain ⟨c0, c1⟩ := HK.out V (Below.refl _ _)
  go_region_held3 (fun w' => w'.cell? ⟨w.heap.size, 0, none⟩ = some (.string f) ∧ w'.cell? ⟨w.heap.size, 1, none⟩ = some (.string r)) (first | exact ⟨c0, c1⟩ | exact HK.out _ (Below.refl _ _).drew | exact HK.out _ hB2 | exact HK.out _ hB1 | exact HKS.out _ hB2)
    (first
      | (go_at_call 96
         ((with_reducible refine (HTX.out _ ?_).mono ?_))
         · exact (Below.refl _ _).drew
         rintro e w1 ⟨A1, cc1, rfl, hs1, hB1⟩)
      | (go_at_call 76
         ((with_reducible refine (HOF.out _ _ _ ?_ ?_).mono ?_))
         · exact hs1
         · exact hB1
         rintro e w2 ⟨rfl, hB2⟩
         have hth := HTH.out w2 hB2))
  all_goals
    go_wp2
    exact bodyPost_ret (v := .agg (w8 (sha (text d ps))).toArray) (results_cell_row Tryd.results70 _ _ (w.heap.size + 1) 29 (w8 (sha (text d ps))).toArray (0, 0) _ rfl (HBK.out w2 hB2) Tryd.underlying29 rfl HS6.out) rfl ⟨rfl, below_setCells _ _ _ (HB.out.trans (hB2.mono (by omega))) (by omega)⟩

theorem slice24 (g : Nat) (W : World) : (Instr.sliceAt 29 (.pointer (some ⟨g, 0, none⟩)) none none none).run Tryd.prog W = .ok (.slice (some ⟨g, 0, none⟩) 32 32) W := by
  have h := run_sliceAt_array_all (P := Tryd.prog) W 29 ⟨g, 0, none⟩ (by kernel_rfl)
  rw [h, show Tryd.prog.arrayLen 29 = 32 by kernel_rfl, show Tryd.prog.elem 29 = 5 by kernel_rfl]
  obtain ⟨i0, hi, hz0, hz1, hz2⟩ := info_parts byte_info
  simp [sizeOf, typeInfo, hi, slicedAt, Addr.add_mid]
end Go.Proofs.YtkonokjhpddbfaaDoor
namespace Go.Proofs.YtkonokjhpddbfaaDoor
open Go.RowKit
set_option linter.unusedVariables false

/-- The standard's first words, as letters. -/
def firstText : ByteArray := ⟨#[54, 97, 48, 57, 101, 54, 54, 55, 98, 98, 54, 55, 97, 101, 56, 53, 51, 99, 54, 101, 102, 51, 55, 50, 97, 53, 52, 102, 102, 53, 51, 97, 53, 49, 48, 101, 53, 50, 55, 102, 57, 98, 48, 53, 54, 56, 56, 99, 49, 102, 56, 51, 100, 57, 97, 98, 53, 98, 101, 48, 99, 100, 49, 57]⟩
/-- What each round adds, as letters. -/
def roundText : ByteArray := ⟨#[52, 50, 56, 97, 50, 102, 57, 56, 55, 49, 51, 55, 52, 52, 57, 49, 98, 53, 99, 48, 102, 98, 99, 102, 101, 57, 98, 53, 100, 98, 97, 53, 51, 57, 53, 54, 99, 50, 53, 98, 53, 57, 102, 49, 49, 49, 102, 49, 57, 50, 51, 102, 56, 50, 97, 52, 97, 98, 49, 99, 53, 101, 100, 53, 100, 56, 48, 55, 97, 97, 57, 56, 49, 50, 56, 51, 53, 98, 48, 49, 50, 52, 51, 49, 56, 53, 98, 101, 53, 53, 48, 99, 55, 100, 99, 51, 55, 50, 98, 101, 53, 100, 55, 52, 56, 48, 100, 101, 98, 49, 102, 101, 57, 98, 100, 99, 48, 54, 97, 55, 99, 49, 57, 98, 102, 49, 55, 52, 101, 52, 57, 98, 54, 57, 99, 49, 101, 102, 98, 101, 52, 55, 56, 54, 48, 102, 99, 49, 57, 100, 99, 54, 50, 52, 48, 99, 97, 49, 99, 99, 50, 100, 101, 57, 50, 99, 54, 102, 52, 97, 55, 52, 56, 52, 97, 97, 53, 99, 98, 48, 97, 57, 100, 99, 55, 54, 102, 57, 56, 56, 100, 97, 57, 56, 51, 101, 53, 49, 53, 50, 97, 56, 51, 49, 99, 54, 54, 100, 98, 48, 48, 51, 50, 55, 99, 56, 98, 102, 53, 57, 55, 102, 99, 55, 99, 54, 101, 48, 48, 98, 102, 51, 100, 53, 97, 55, 57, 49, 52, 55, 48, 54, 99, 97, 54, 51, 53, 49, 49, 52, 50, 57, 50, 57, 54, 55, 50, 55, 98, 55, 48, 97, 56, 53, 50, 101, 49, 98, 50, 49, 51, 56, 52, 100, 50, 99, 54, 100, 102, 99, 53, 51, 51, 56, 48, 100, 49, 51, 54, 53, 48, 97, 55, 51, 53, 52, 55, 54, 54, 97, 48, 97, 98, 98, 56, 49, 99, 50, 99, 57, 50, 101, 57, 50, 55, 50, 50, 99, 56, 53, 97, 50, 98, 102, 101, 56, 97, 49, 97, 56, 49, 97, 54, 54, 52, 98, 99, 50, 52, 98, 56, 98, 55, 48, 99, 55, 54, 99, 53, 49, 97, 51, 100, 49, 57, 50, 101, 56, 49, 57, 100, 54, 57, 57, 48, 54, 50, 52, 102, 52, 48, 101, 51, 53, 56, 53, 49, 48, 54, 97, 97, 48, 55, 48, 49, 57, 97, 52, 99, 49, 49, 54, 49, 101, 51, 55, 54, 99, 48, 56, 50, 55, 52, 56, 55, 55, 52, 99, 51, 52, 98, 48, 98, 99, 98, 53, 51, 57, 49, 99, 48, 99, 98, 51, 52, 101, 100, 56, 97, 97, 52, 97, 53, 98, 57, 99, 99, 97, 52, 102, 54, 56, 50, 101, 54, 102, 102, 51, 55, 52, 56, 102, 56, 50, 101, 101, 55, 56, 97, 53, 54, 51, 54, 102, 56, 52, 99, 56, 55, 56, 49, 52, 56, 99, 99, 55, 48, 50, 48, 56, 57, 48, 98, 101, 102, 102, 102, 97, 97, 52, 53, 48, 54, 99, 101, 98, 98, 101, 102, 57, 97, 51, 102, 55, 99, 54, 55, 49, 55, 56, 102, 50]⟩
set_option maxRecDepth 100000 in
theorem texts : Texts firstText roundText := ⟨by decide +kernel, by decide +kernel, by decide +kernel, by decide +kernel, by decide +kernel, by decide +kernel⟩

set_option maxRecDepth 100000 in
theorem make_any (w : World) : Calls Tryd.prog 19 #[] w fun e w' => e = .returned (.agg #[.string firstText, .string roundText]) ∧ Below w.heap.size w w' := by
  go_enter Tryd.func19, Tryd.ntmps19
  go_wp2
  exact bodyPost_ret (v := .agg #[.string firstText, .string roundText]) (by simp [results, Tryd.results19, go_sem, firstText, roundText]) rfl ⟨rfl, by first | exact ((Below.refl _ _).alloc (Nat.le_refl _) _) | exact (((Below.refl _ _).alloc (Nat.le_refl _) _).setCell (Nat.le_refl _) _).setCell (Nat.le_refl _) _⟩

/-- Bytes that came in. -/
structure CameB (W : World) (A : Option Addr) (c n : Nat) (l : List Nat) : Prop where
  src : Src W W.heap.size A c l
  len : l.length = n
  cap : c ≤ 9223372036854775807

theorem eql_sum (l : List Nat) (w : World) : (binOp .eql 36 (.agg (w8 (sha l)).toArray) (.agg (w8 (sha l)).toArray)).run Tryd.prog w = .ok (.bool true) w := eql_same (sha l) (sha_length l) w

end Go.Proofs.YtkonokjhpddbfaaDoor
