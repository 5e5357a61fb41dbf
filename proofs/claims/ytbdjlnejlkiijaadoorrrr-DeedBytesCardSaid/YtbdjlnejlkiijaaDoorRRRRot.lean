/-
  math/bits.RotateLeft32 at the ten turns that mill asks for, and mill.bytesOf: what they answer for every word; memory that was there stays as it was.
-/
import Derived.Test.YtbdjlnejlkiijaaDoorRRRProg
import Derived.Test.YtbdjlnejlkiijaaDoorRRRNum
import Derived.WalkKit
import Derived.WalkSpells
import Derived.WalkSmall
import Derived.LoopN
import Derived.Lib.Hide
import Derived.Maps.AppendAt
import Derived.Deep.Draws
import Derived.Deep.QuietTactic
import Derived.BigQuiet
import Derived.StillTailTactics
import Derived.RegionTactic
import Derived.BigRegion
import Derived.Deep.MidRow
import Derived.Deep.WholeRow
import Derived.Laws.CopyOwn
import Derived.Laws.BitsAllLaws
namespace Go.Proofs.YtbdjlnejlkiijaaDoorRRR
open Go.RowKit
set_option linter.unusedVariables false

theorem rot_num (n x : Nat) (hn : n ≤ 32) (hx : x < 4294967296) : bits .or .u32 ((x : Int) * ((2 ^ (32 - n) : Nat) : Int) % 4294967296) ((x : Int) / ((2 ^ n : Nat) : Int)) = ((rotr n x : Nat) : Int) := by
  rw [← rotr_or n x hn hx]
  have h1 : (x : Int) * ((2 ^ (32 - n) : Nat) : Int) % 4294967296 = ((x * 2 ^ (32 - n) % 4294967296 : Nat) : Int) := by simp
  have h2 : (x : Int) / ((2 ^ n : Nat) : Int) = ((x / 2 ^ n : Nat) : Int) := by simp
  rw [h1, h2]
  exact u32_or_nat _ _ (Nat.mod_lt _ (by omega)) (Nat.lt_of_le_of_lt (Nat.div_le_self _ _) hx)

theorem ret_u32 {a b : Int} (h : a = b) : Ending.returned (.int .u32 a) = .returned (.int .u32 b) := by rw [h]

set_option maxRecDepth 100000 in
theorem turn6 (x : Nat) (w : World) (hx : x < 4294967296) : Calls Tryd.prog 76 #[.int .u32 (x : Int), .int .i64 (-6)] w fun e w' => e = .returned (.int .u32 ((rotr 6 x : Nat) : Int)) ∧ w = w' := by
  have h0 : (0 : Int) ≤ x := by omega
  have h1 : (x : Int) ≤ 4294967295 := by omega
  have hk : bits .and .u64 (IntKind.u64.wrap (-6)) 31 = 26 := by decide +kernel
  have HN := Lib.hid (rot_num 6 x (by omega) hx)
  go_enter Tryd.func76, Tryd.ntmps76
  go_wp2
  go_ret
  exact ⟨ret_u32 HN.out, rfl⟩

set_option maxRecDepth 100000 in
theorem turn11 (x : Nat) (w : World) (hx : x < 4294967296) : Calls Tryd.prog 76 #[.int .u32 (x : Int), .int .i64 (-11)] w fun e w' => e = .returned (.int .u32 ((rotr 11 x : Nat) : Int)) ∧ w = w' := by
  have h0 : (0 : Int) ≤ x := by omega
  have h1 : (x : Int) ≤ 4294967295 := by omega
  have hk : bits .and .u64 (IntKind.u64.wrap (-11)) 31 = 21 := by decide +kernel
  have HN := Lib.hid (rot_num 11 x (by omega) hx)
  go_enter Tryd.func76, Tryd.ntmps76
  go_wp2
  go_ret
  exact ⟨ret_u32 HN.out, rfl⟩

set_option maxRecDepth 100000 in
theorem turn25 (x : Nat) (w : World) (hx : x < 4294967296) : Calls Tryd.prog 76 #[.int .u32 (x : Int), .int .i64 (-25)] w fun e w' => e = .returned (.int .u32 ((rotr 25 x : Nat) : Int)) ∧ w = w' := by
  have h0 : (0 : Int) ≤ x := by omega
  have h1 : (x : Int) ≤ 4294967295 := by omega
  have hk : bits .and .u64 (IntKind.u64.wrap (-25)) 31 = 7 := by decide +kernel
  have HN := Lib.hid (rot_num 25 x (by omega) hx)
  go_enter Tryd.func76, Tryd.ntmps76
  go_wp2
  go_ret
  exact ⟨ret_u32 HN.out, rfl⟩

set_option maxRecDepth 100000 in
theorem turn2 (x : Nat) (w : World) (hx : x < 4294967296) : Calls Tryd.prog 76 #[.int .u32 (x : Int), .int .i64 (-2)] w fun e w' => e = .returned (.int .u32 ((rotr 2 x : Nat) : Int)) ∧ w = w' := by
  have h0 : (0 : Int) ≤ x := by omega
  have h1 : (x : Int) ≤ 4294967295 := by omega
  have hk : bits .and .u64 (IntKind.u64.wrap (-2)) 31 = 30 := by decide +kernel
  have HN := Lib.hid (rot_num 2 x (by omega) hx)
  go_enter Tryd.func76, Tryd.ntmps76
  go_wp2
  go_ret
  exact ⟨ret_u32 HN.out, rfl⟩

set_option maxRecDepth 100000 in
theorem turn13 (x : Nat) (w : World) (hx : x < 4294967296) : Calls Tryd.prog 76 #[.int .u32 (x : Int), .int .i64 (-13)] w fun e w' => e = .returned (.int .u32 ((rotr 13 x : Nat) : Int)) ∧ w = w' := by
  have h0 : (0 : Int) ≤ x := by omega
  have h1 : (x : Int) ≤ 4294967295 := by omega
  have hk : bits .and .u64 (IntKind.u64.wrap (-13)) 31 = 19 := by decide +kernel
  have HN := Lib.hid (rot_num 13 x (by omega) hx)
  go_enter Tryd.func76, Tryd.ntmps76
  go_wp2
  go_ret
  exact ⟨ret_u32 HN.out, rfl⟩

set_option maxRecDepth 100000 in
theorem turn22 (x : Nat) (w : World) (hx : x < 4294967296) : Calls Tryd.prog 76 #[.int .u32 (x : Int), .int .i64 (-22)] w fun e w' => e = .returned (.int .u32 ((rotr 22 x : Nat) : Int)) ∧ w = w' := by
  have h0 : (0 : Int) ≤ x := by omega
  have h1 : (x : Int) ≤ 4294967295 := by omega
  have hk : bits .and .u64 (IntKind.u64.wrap (-22)) 31 = 10 := by decide +kernel
  have HN := Lib.hid (rot_num 22 x (by omega) hx)
  go_enter Tryd.func76, Tryd.ntmps76
  go_wp2
  go_ret
  exact ⟨ret_u32 HN.out, rfl⟩

set_option maxRecDepth 100000 in
theorem turn7 (x : Nat) (w : World) (hx : x < 4294967296) : Calls Tryd.prog 76 #[.int .u32 (x : Int), .int .i64 (-7)] w fun e w' => e = .returned (.int .u32 ((rotr 7 x : Nat) : Int)) ∧ w = w' := by
  have h0 : (0 : Int) ≤ x := by omega
  have h1 : (x : Int) ≤ 4294967295 := by omega
  have hk : bits .and .u64 (IntKind.u64.wrap (-7)) 31 = 25 := by decide +kernel
  have HN := Lib.hid (rot_num 7 x (by omega) hx)
  go_enter Tryd.func76, Tryd.ntmps76
  go_wp2
  go_ret
  exact ⟨ret_u32 HN.out, rfl⟩

set_option maxRecDepth 100000 in
theorem turn18 (x : Nat) (w : World) (hx : x < 4294967296) : Calls Tryd.prog 76 #[.int .u32 (x : Int), .int .i64 (-18)] w fun e w' => e = .returned (.int .u32 ((rotr 18 x : Nat) : Int)) ∧ w = w' := by
  have h0 : (0 : Int) ≤ x := by omega
  have h1 : (x : Int) ≤ 4294967295 := by omega
  have hk : bits .and .u64 (IntKind.u64.wrap (-18)) 31 = 14 := by decide +kernel
  have HN := Lib.hid (rot_num 18 x (by omega) hx)
  go_enter Tryd.func76, Tryd.ntmps76
  go_wp2
  go_ret
  exact ⟨ret_u32 HN.out, rfl⟩

set_option maxRecDepth 100000 in
theorem turn17 (x : Nat) (w : World) (hx : x < 4294967296) : Calls Tryd.prog 76 #[.int .u32 (x : Int), .int .i64 (-17)] w fun e w' => e = .returned (.int .u32 ((rotr 17 x : Nat) : Int)) ∧ w = w' := by
  have h0 : (0 : Int) ≤ x := by omega
  have h1 : (x : Int) ≤ 4294967295 := by omega
  have hk : bits .and .u64 (IntKind.u64.wrap (-17)) 31 = 15 := by decide +kernel
  have HN := Lib.hid (rot_num 17 x (by omega) hx)
  go_enter Tryd.func76, Tryd.ntmps76
  go_wp2
  go_ret
  exact ⟨ret_u32 HN.out, rfl⟩

set_option maxRecDepth 100000 in
theorem turn19 (x : Nat) (w : World) (hx : x < 4294967296) : Calls Tryd.prog 76 #[.int .u32 (x : Int), .int .i64 (-19)] w fun e w' => e = .returned (.int .u32 ((rotr 19 x : Nat) : Int)) ∧ w = w' := by
  have h0 : (0 : Int) ≤ x := by omega
  have h1 : (x : Int) ≤ 4294967295 := by omega
  have hk : bits .and .u64 (IntKind.u64.wrap (-19)) 31 = 13 := by decide +kernel
  have HN := Lib.hid (rot_num 19 x (by omega) hx)
  go_enter Tryd.func76, Tryd.ntmps76
  go_wp2
  go_ret
  exact ⟨ret_u32 HN.out, rfl⟩

/-- A row of words, of bytes. -/
def w32 (l : List Nat) : List Value := l.map fun (x : Nat) => Value.int .u32 (x : Int)
def w8 (l : List Nat) : List Value := l.map fun (x : Nat) => Value.int .u8 (x : Int)
theorem w32_length (l : List Nat) : (w32 l).length = l.length := by simp [w32]
theorem w8_length (l : List Nat) : (w8 l).length = l.length := by simp [w8]
theorem w32_one (l : List Nat) : ∀ v ∈ w32 l, v.oneCell' = true := by intro v hv; obtain ⟨n, _, rfl⟩ := List.mem_map.1 hv; rfl
theorem w8_one (l : List Nat) : ∀ v ∈ w8 l, v.oneCell' = true := by intro v hv; obtain ⟨n, _, rfl⟩ := List.mem_map.1 hv; rfl
theorem w32_get (l : List Nat) (i : Nat) (h : i < l.length) : (w32 l)[i]? = some (.int .u32 ((l.getD i 0 : Nat) : Int)) := by simp [w32, List.getD, h]
theorem w8_get (l : List Nat) (i : Nat) (h : i < l.length) : (w8 l)[i]? = some (.int .u8 ((l.getD i 0 : Nat) : Int)) := by simp [w8, List.getD, h]

set_option maxRecDepth 100000 in
theorem bytesOf_any (x : Nat) (w : World) (hx : x < 4294967296) : Calls Tryd.prog 50 #[.int .u32 (x : Int)] w fun e w' => e = .returned (.agg (w8 (four x)).toArray) ∧ Below w.heap.size w w' := by
  have h0 : (0 : Int) ≤ x := by omega
  have h1 : (x : Int) ≤ 4294967295 := by omega
  go_enter Tryd.func50, Tryd.ntmps50
  go_wp2
  exact bodyPost_ret (v := .agg #[.int .u8 ((x : Int) / 16777216), .int .u8 ((x : Int) / 65536 % 256), .int .u8 ((x : Int) / 256 % 256), .int .u8 ((x : Int) % 256)]) (by simp [results, Tryd.results50, go_sem]) rfl ⟨rfl, (Below.refl _ _).alloc (Nat.le_refl _) _⟩
end Go.Proofs.YtbdjlnejlkiijaaDoorRRR
