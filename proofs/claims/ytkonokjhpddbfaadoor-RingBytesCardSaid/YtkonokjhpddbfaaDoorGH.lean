/-
  Steps of regions that draw their order: a call, what is made (by the run's equation), an append onto an empty row; of any program.
  The ring as numbers: the sums of each row, the way up from a key, what a way leads to: from a key's leaf it leads to the root.
  The ring's rows: join (function 82), leaves (77), above (78): what they answer; nothing that was there is written.
  The ring's row above another one: above (function 78); nothing that was there is written.
  A ring in memory: its block, its rows.
  ring.New (function 43): a ring of so many keys, in blocks of its own; nothing that was there is written.
  A ring's small calls: within (function 81), Tall (46), find (79), Root (45), Taken (54), Spend (50), of a ring and of none.
  A ring's signatures: signature (function 80): the key's, with the way up; nothing that was there is written.
  A ring signs: Sign (function 48), Again (49), of a ring and of none.
-/
import Derived.Test.YtkonokjhpddbfaaDoorGA
import Derived.Deep.DeepCutAuto
import Derived.WideShapes
import Derived.Test.YtkonokjhpddbfaaDoorGD
import Derived.OwnWalk
import Derived.Laws.OwnMore
namespace Go.Proofs.YtkonokjhpddbfaaDoor.Kt
open Go.RowKit
set_option linter.unusedVariables false

section
variable {P : Program} {ops : Array Oper} {o : Oper} {a : Act} {w : World} {K : Act → World → Prop} {Q : Exit → Act → World → Prop} {E : Prop}
theorem step_call (hw : Region.wanted o (yielded ops a.tmps) = true) (f : FuncId) (args : Array Operand) (tys : Array TypeId)
    (ho : o.op = .call { callee := .value (.func f), args := args, argTypes := tys }) (vs : Array Value) (hv : args.map a.eval = vs) {R : Ending → World → Prop} (hf : (callFunc f vs).run P w = .ok (.enter f vs) w) (hc : Calls P f vs w R)
    (hR : ∀ e w', R e w' → ∃ v, e = .returned v ∧ K (a.put o.dst v) w') :
    if Region.wanted o (yielded ops a.tmps) = true then Oper.wp P o a w K Q else E := by
  rw [if_pos hw]
  have e : (execOp a.eval o).run P w = .ok (.enter f vs) w := by
    unfold execOp
    simp only [ho]
    go_simp
    first | done | (rw [hv]; exact hf)
  unfold Oper.wp
  rw [e, Oper.upon_enter]
  refine hc.mono ?_
  intro e w' hr
  obtain ⟨v, rfl, hv⟩ := hR e w' hr
  exact hv

/-- A step whose run is known. -/
theorem step_val (hw : Region.wanted o (yielded ops a.tmps) = true) (v : Value) (W : World) (hr : (execOp a.eval o).run P w = .ok (.value v) W) (h : K (a.put o.dst v) W) :
    if Region.wanted o (yielded ops a.tmps) = true then Oper.wp P o a w K Q else E := by
  rw [if_pos hw]
  unfold Oper.wp
  rw [hr]
  exact h

theorem step_new (hw : Region.wanted o (yielded ops a.tmps) = true) (t : TypeId) (ho : o.op = .alloc t) (cells : Array Value) (v : Value) (hb : (Instr.alloc t true (.tuple #[])).run P w = .ok v (w.alloc (.cells cells t)))
    (h : K (a.put o.dst v) (w.alloc (.cells cells t))) :
    if Region.wanted o (yielded ops a.tmps) = true then Oper.wp P o a w K Q else E :=
  step_val hw v _ (by unfold execOp; simp only [ho, Sem.run_bind, hb, Result.andThen_ok, Sem.run_pure]) h

theorem step_lay (hw : Region.wanted o (yielded ops a.tmps) = true) (t len : Nat) (parts : Array (Nat × Operand)) (ho : o.op = .buildSlice t len parts)
    (vals : Array (Nat × Value)) (hv : (parts.map fun (i, x) => (i, a.eval x)) = vals) (v : Value) (W : World) (hb : (Instr.buildSlice t len vals).run P w = .ok v W) (h : K (a.put o.dst v) W) :
    if Region.wanted o (yielded ops a.tmps) = true then Oper.wp P o a w K Q else E :=
  step_val hw v W (by unfold execOp; simp only [ho, hv, Sem.run_bind, hb, Result.andThen_ok, Sem.run_pure]) h

theorem step_make (hw : Region.wanted o (yielded ops a.tmps) = true) (t : TypeId) (x y : Operand) (ho : o.op = .makeSlice t x y) (v : Value) (W : World)
    (hb : (Instr.makeSlice t (a.eval x) (a.eval y)).run P w = .ok v W) (h : K (a.put o.dst v) W) :
    if Region.wanted o (yielded ops a.tmps) = true then Oper.wp P o a w K Q else E :=
  step_val hw v W (by unfold execOp; simp only [ho, Sem.run_bind, hb, Result.andThen_ok, Sem.run_pure]) h

theorem step_append (hw : Region.wanted o (yielded ops a.tmps) = true) (s x : Operand) (t t2 : TypeId) (ho : o.op = .call { callee := .builtin .append, args := #[s, x], argTypes := #[t, t2] }) (v : Value) (W : World)
    (hb : ∀ ty, (Builtin.append_ #[t, t2] ty #[a.eval s, a.eval x]).run P w = .ok v W) (h : K (a.put o.dst v) W) :
    if Region.wanted o (yielded ops a.tmps) = true then Oper.wp P o a w K Q else E := by
  have hb := hb o.type
  refine step_val hw v W ?_ h
  unfold execOp
  simp only [ho, resolve, invoke, builtin, Sem.run_bind, Sem.run_pure, Result.andThen_ok, List.map_toArray, List.map_cons, List.map_nil, hb]
end

section
variable {P : Program} {w : World}
end

section
variable {P : Program} {ops : Array Oper} {o : Oper} {a : Act} {w : World} {K : Act → World → Prop} {Q : Exit → Act → World → Prop} {E : Prop}
end

section
variable {P : Program} {ops : Array Oper} {o : Oper} {a : Act} {w : World} {K : Act → World → Prop} {Q : Exit → Act → World → Prop} {E : Prop}
/-- An append onto a row of the call's own. -/
theorem step_own (hw : Region.wanted o (yielded ops a.tmps) = true) (s x : Operand) (t : TypeId) (ho : o.op = .call { callee := .builtin .append, args := #[s, x], argTypes := #[t, t] })
    (base : Nat) (e : TypeId) (i : TypeInfo) (z : Value) (size bytes : Nat) (ht : P.underlying t = some (.slice e)) (hi : P.info? e = some i) (hz : i.zero = some z)
    (hsize : i.size = size) (hby : i.bytes = bytes) (hzs : z.cells.size = size) (hsz : 0 < size)
    (v : Value) (n : Nat) (xs : List Value) (hs : a.eval s = v) (hown : w.ownsRow base e size v n xs)
    (ad : Addr) (m c : Nat) (news : List Value) (hx : a.eval x = .slice (some ad) m c) (hl : news.length = m * size) (hnews : ∀ j u, news[j]? = some u → w.cell? (ad.add j) = some u) (h1 : ∀ u ∈ news, u.oneCell' = true)
    (h63 : n + m ≤ maxLen) (hbytes : (n + m) * bytes ≤ 140737488355328) (hbase : base ≤ w.heap.size)
    (h : ∀ v' Y, Y.ownsRow base e size v' (n + m) (xs ++ news) → w.grownBy Y v.ownBlock → (v'.ownBlock = v.ownBlock ∨ v'.ownBlock = some w.heap.size) → (v' = .slice none 0 0 ↔ v = .slice none 0 0 ∧ m = 0) → K (a.put o.dst v') Y) :
    if Region.wanted o (yielded ops a.tmps) = true then Oper.wp P o a w K Q else E := by
  obtain ⟨v', Y, hr, h2, h3, h4, h5⟩ := run_append_own_at (P := P) w base t 0 e i z size bytes ht hi hz hsize hby hzs hsz v n xs hown ad m c news hl hnews h1 h63 hbytes hbase
  exact step_append hw s x t t ho v' Y (fun ty => by rw [hs, hx]; exact hr) (h v' Y h2 h3 h5 h4)
end
/-- A slice of one element, laid: its cells. -/
theorem news_of {w : World} {g : Nat} {t : TypeId} {cs : List Value} (h : Blk w g t cs) : ∀ j u, cs[j]? = some u → w.cell? ((⟨g, 0, none⟩ : Addr).add j) = some u := fun j u hu => by
  rw [Go.WideShapes.add_plain, Nat.zero_add, h.cell]; exact hu
section
variable {P : Program} {ops : Array Oper} {o : Oper} {a : Act} {w : World} {K : Act → World → Prop} {Q : Exit → Act → World → Prop} {E : Prop}
/-- A struct that is stored into a block of its own. -/
theorem step_store (hw : Region.wanted o (yielded ops a.tmps) = true) (t : TypeId) (d s : Operand) (ho : o.op = .store t d s) (g : Nat) (cells : List Value) (hd : a.eval d = .pointer (some ⟨g, 0, none⟩)) (hs : a.eval s = .agg cells.toArray)
    (tb : TypeId) (old : List Value) (hB : Blk w g tb old) (hi : (P.info? t).map (·.size) = some cells.length) (hold : old.length = cells.length) (h1 : cells.toArray.all (·.oneCell') = true)
    (h : ∀ Y, Blk Y g tb cells → w.grownBy Y (some g) → K (a.put o.dst undef) Y) :
    if Region.wanted o (yielded ops a.tmps) = true then Oper.wp P o a w K Q else E := by
  rw [if_pos hw]
  exact wp_store_row t d s ho g cells.toArray hd hs tb old.toArray hB (by simpa using hi) (by simpa using hold) h1 (h _ (hB.setRow cells) (only_setRow (only_refl w _) _))
end
end Go.Proofs.YtkonokjhpddbfaaDoor.Kt
namespace Go.Proofs.YtkonokjhpddbfaaDoor
set_option linter.unusedVariables false

/-- What stands above two sums. -/
def joinN (a b : List Nat) : List Nat := sha (text 3 [a, b])
theorem joinN_length (a b : List Nat) : (joinN a b).length = 32 := sha_length _
/-- The sums of a row, from the leaves on. -/
def levN (seed : List Nat) : Nat → Nat → List Nat
  | 0, n => leafN seed n
  | k + 1, n => joinN (levN seed k (2 * n)) (levN seed k (2 * n + 1))
theorem levN_length (seed : List Nat) : ∀ k n, (levN seed k n).length = 32
  | 0, n => sha_length _
  | k + 1, n => sha_length _
theorem levN_lt (seed : List Nat) : ∀ k n, ∀ x ∈ levN seed k n, x < 256
  | 0, n => sha_lt _
  | k + 1, n => sha_lt _
def rootN (seed : List Nat) (tall : Nat) : List Nat := levN seed tall 0
/-- The place beside another one. -/
def sibN (n : Nat) : Nat := if n % 2 = 0 then n + 1 else n - 1
def wayN (seed : List Nat) (key k : Nat) : List Nat := levN seed k (sibN (key / 2 ^ k))
theorem wayN_length (seed : List Nat) (key k : Nat) : (wayN seed key k).length = 32 := levN_length _ _ _
theorem wayN_lt (seed : List Nat) (key k : Nat) : ∀ x ∈ wayN seed key k, x < 256 := levN_lt _ _ _
/-- What a way leads to. -/
def climbN (top : List Nat) (way : Nat → List Nat) (key : Nat) : Nat → List Nat
  | 0 => top
  | k + 1 => if key / 2 ^ k % 2 = 0 then joinN (climbN top way key k) (way k) else joinN (way k) (climbN top way key k)
theorem climbN_length (top : List Nat) (way : Nat → List Nat) (key : Nat) (h : top.length = 32) : ∀ k, (climbN top way key k).length = 32
  | 0 => h
  | k + 1 => by unfold climbN; split <;> exact sha_length _
theorem climbN_lt (top : List Nat) (way : Nat → List Nat) (key : Nat) (h : ∀ x ∈ top, x < 256) : ∀ k, ∀ x ∈ climbN top way key k, x < 256
  | 0 => h
  | k + 1 => by unfold climbN; split <;> exact sha_lt _
theorem climb_way (seed : List Nat) (key : Nat) : ∀ k, climbN (leafN seed key) (wayN seed key) key k = levN seed k (key / 2 ^ k)
  | 0 => by simp [climbN, levN]
  | k + 1 => by
    have e : key / 2 ^ (k + 1) = key / 2 ^ k / 2 := by rw [Nat.pow_succ, Nat.div_div_eq_div_mul]
    unfold climbN
    rw [climb_way seed key k, e]
    unfold wayN sibN
    generalize key / 2 ^ k = q
    by_cases h : q % 2 = 0
    · rw [if_pos h, if_pos h]
      show _ = joinN (levN seed k (2 * (q / 2))) (levN seed k (2 * (q / 2) + 1))
      rw [show 2 * (q / 2) = q by omega]
    · rw [if_neg h, if_neg h]
      show _ = joinN (levN seed k (2 * (q / 2))) (levN seed k (2 * (q / 2) + 1))
      rw [show 2 * (q / 2) = q - 1 by omega, show q - 1 + 1 = q by omega]
theorem climb_root (seed : List Nat) (key tall : Nat) (h : key < 2 ^ tall) : climbN (leafN seed key) (wayN seed key) key tall = rootN seed tall := by
  rw [climb_way, Nat.div_eq_of_lt h]
  rfl
theorem sibN_lt (key tall k : Nat) (hk : k < tall) (h : key < 2 ^ tall) : sibN (key / 2 ^ k) < 2 ^ (tall - k) := by
  have e : 2 ^ tall = 2 ^ k * 2 ^ (tall - k) := by rw [← Nat.pow_add]; congr 1; omega
  have h1 : key / 2 ^ k < 2 ^ (tall - k) := Nat.div_lt_of_lt_mul (by rw [← e]; exact h)
  have h2 : 2 ^ (tall - k) = 2 * 2 ^ (tall - k - 1) := by rw [← Nat.pow_succ']; congr 1; omega
  unfold sibN
  generalize key / 2 ^ k = q at h1 ⊢
  generalize 2 ^ (tall - k - 1) = m at h2
  split <;> omega
end Go.Proofs.YtkonokjhpddbfaaDoor
namespace Go.Proofs.YtkonokjhpddbfaaDoor
open Go.RowKit
set_option linter.unusedVariables false

theorem made_sums (n : Nat) : (madeCells zsum (n * 32)).toList = w8 (List.replicate (32 * n) 0) := by
  have h0 : ∀ j, j < 32 → zsum[j]! = Value.int .u8 0 := by
    intro j hj
    have e : zsum = Array.replicate 32 (Value.int .u8 0) := by kernel_rfl
    rw [e, getElem!_pos _ _ (by simpa using hj)]
    simp
  have hsz : zsum.size = 32 := rfl
  unfold madeCells
  rw [hsz, Array.toList_map, Array.toList_range]
  apply List.ext_getElem?
  intro i
  rw [List.getElem?_map]
  rcases Nat.lt_or_ge i (n * 32) with hi | hi
  · rw [List.getElem?_range hi, Option.map_some, h0 (i % 32) (by omega)]
    simp only [w8, List.map_replicate]
    rw [List.getElem?_replicate, if_pos (by omega)]
    rfl
  · rw [List.getElem?_eq_none (by simpa using hi), List.getElem?_eq_none (by simp [w8]; omega)]
    rfl
theorem own_full {w : World} {base size g n : Nat} {e : TypeId} {xs : List Value} (h : w.ownsRow base e size (.slice (some ⟨g, 0, none⟩) n n) n xs) : Blk w g e xs ∧ base ≤ g := by
  rcases h.2 with ⟨h0, _⟩ | ⟨g', cap, cur, hv, hb, hg, hn, hc, hs, ht⟩
  · cases h0
  · injection hv with h1 h2 h3
    injection h1 with h1
    injection h1 with h1
    subst h1
    subst h3
    refine ⟨?_, hb⟩
    unfold Blk
    rw [hg]
    have e : cur.toList = xs := by rw [← ht, List.take_of_length_le (by simp [hs])]
    rw [← e]
theorem info36f : (Tryd.prog.info? 36).map (fun i => (i.zero, i.size, i.bytes)) = some (some (.agg zsum), 32, 32) := by kernel_rfl
/-- Sums so far. -/
def sumsC (f : Nat → List Nat) (m k : Nat) : List Nat := rows f k ++ List.replicate (32 * (m - k)) 0
theorem sumsC_zero (f : Nat → List Nat) (m : Nat) : sumsC f m 0 = List.replicate (32 * m) 0 := by simp [sumsC, rows]
theorem sumsC_end (f : Nat → List Nat) (m : Nat) : sumsC f m m = rows f m := by simp [sumsC]
theorem sumsC_open (f : Nat → List Nat) (m k : Nat) (hk : k < m) : sumsC f m k = rows f k ++ (List.replicate 32 0 ++ List.replicate (32 * (m - (k + 1))) 0) := by
  unfold sumsC
  rw [zeros_cut (32 * (m - k)) 32 (by omega), show 32 * (m - k) - 32 = 32 * (m - (k + 1)) by omega]
theorem sumsC_shut (f : Nat → List Nat) (m k : Nat) (x : List Nat) (h : f k = x) : rows f k ++ (x ++ List.replicate (32 * (m - (k + 1))) 0) = sumsC f m (k + 1) := by
  unfold sumsC
  rw [rows_succ, h, List.append_assoc]
theorem Blk.put8' {w : World} {g : Nat} {t : TypeId} (f : Nat → List Nat) (hf : ∀ a, (f a).length = 32) (m k : Nat) (hk : k < m) (h : Blk w g t (w8 (sumsC f m k))) : Blk (w.setCells g (k * 32) (w8 (f k))) g t (w8 (sumsC f m (k + 1))) := by
  rw [sumsC_open f m k hk] at h
  have h1 := Blk.put8 (rows f k) (List.replicate 32 0) (List.replicate (32 * (m - (k + 1))) 0) (f k) h (by rw [hf]; simp) (k * 32) (by rw [rows_length hf]; omega)
  rw [sumsC_shut f m k _ rfl] at h1
  exact h1
theorem sumsC_length (f : Nat → List Nat) (hf : ∀ a, (f a).length = 32) (m k : Nat) (hk : k ≤ m) : (sumsC f m k).length = 32 * m := by
  unfold sumsC
  rw [List.length_append, rows_length hf, List.length_replicate]
  omega
/-- A sum in a row of sums. -/
theorem Blk.sum_at {w : World} {g : Nat} {t : TypeId} (f : Nat → List Nat) (hf : ∀ a, (f a).length = 32) (m k : Nat) (hk : k < m) (h : Blk w g t (w8 (rows f m))) (o : Nat) (ho : k * 32 = o) : w.rangeAt g o (w8 (f k)) := by
  have h1 := h.range (32 * k) 32
  rw [w8_drop, w8_take, rows_piece hf m k hk] at h1
  rw [← ho, Nat.mul_comm]
  exact h1

set_option maxRecDepth 100000 in
set_option maxHeartbeats 2000000 in
theorem join_any (a b : List Nat) (w : World) (HT : Hid (Tab w)) (HLA : Hid (a.length = 32)) (HPA : Hid (∀ x ∈ a, x < 256)) (HLB : Hid (b.length = 32)) (HPB : Hid (∀ x ∈ b, x < 256)) :
    Calls Tryd.prog 82 #[.agg (w8 a).toArray, .agg (w8 b).toArray] w fun e w' => e = .returned (.agg (w8 (joinN a b)).toArray) ∧ Below w.heap.size w w' := by
  have hs1 := slice32 w.heap.size 0
  have hs2 := slice32 (w.heap.size + 1) 0
  go_enter Tryd.func82, Tryd.ntmps82
  go_upto_region 1 with fail
  have HA : Hid (Blk (((w.alloc (.cells (w8 a).toArray 36)).alloc (.cells (w8 b).toArray 36)).alloc (.cells zsum 36)) w.heap.size 36 (w8 a)) := Lib.hid (by
    have h := ((Blk.new w 36 (w8 a)).alloc (.cells (w8 b).toArray 36)).alloc (.cells zsum 36)
    exact h)
  have HB : Hid (Blk (((w.alloc (.cells (w8 a).toArray 36)).alloc (.cells (w8 b).toArray 36)).alloc (.cells zsum 36)) (w.heap.size + 1) 36 (w8 b)) := Lib.hid (by
    have h := (Blk.new (w.alloc (.cells (w8 a).toArray 36)) 36 (w8 b)).alloc (.cells zsum 36)
    rw [World.size_alloc] at h
    exact h)
  have HC : Hid (Blk (((w.alloc (.cells (w8 a).toArray 36)).alloc (.cells (w8 b).toArray 36)).alloc (.cells zsum 36)) (w.heap.size + 1 + 1) 36 (w8 (List.replicate 32 0))) := Lib.hid (by
    have h := Blk.new ((w.alloc (.cells (w8 a).toArray 36)).alloc (.cells (w8 b).toArray 36)) 36 (w8 (List.replicate 32 0))
    rw [zsum_eq, World.size_alloc, World.size_alloc] at h
    exact h)
  have HW : Hid (Below w.heap.size w (((w.alloc (.cells (w8 a).toArray 36)).alloc (.cells (w8 b).toArray 36)).alloc (.cells zsum 36))) := Lib.hid ((((Below.refl _ _).alloc (Nat.le_refl _) _).alloc (by simp) _).alloc (by simp; omega) _)
  unfold zsum at HA HB HC HW
  generalize (((w.alloc (.cells (w8 a).toArray 36)).alloc (.cells (w8 b).toArray 36)).alloc (.cells _ 36)) = V at HA HB HC HW ⊢
  have HS6 : Hid ((Tryd.prog.info? 36).map (·.size) = some (w8 (joinN a b)).toArray.size) := Lib.hid (by rw [List.size_toArray, w8_length, joinN_length]; exact info36)
  have HS7 : Hid ((Tryd.prog.info? 36).map (·.size) = some (w8 (joinN a b)).length) := Lib.hid (by rw [w8_length, joinN_length]; exact info36)
  have HZ7 : Hid ((w8 (List.replicate 32 0)).length = (w8 (joinN a b)).length) := Lib.hid (by rw [w8_length, w8_length, joinN_length]; simp)
  have HO7 := Lib.hid (all_oneCell_toArray (w8_one (joinN a b)))
  have HRF : Hid (∀ (X : World) (g : Nat), Blk X w.heap.size 36 (w8 a) → Blk X (w.heap.size + 1) 36 (w8 b) → Blk X g 30 [.slice (some ⟨w.heap.size, 0, none⟩) 32 32, .slice (some ⟨w.heap.size + 1, 0, none⟩) 32 32] → Tab X → Calls Tryd.prog 94 #[.int .u8 3, .slice (some ⟨g, 0, none⟩) 2 2] X fun e w' => e = .returned (.agg (w8 (joinN a b)).toArray) ∧ Below X.heap.size X w') := Lib.hid fun X g h1 h2 h3 hT => by
    have hp := Parts.two' (b := X.heap.size) (x1 := a) (x2 := b) h3 HLA.out.symm HLB.out.symm (by have := h3.lt; omega) (by omega) (by omega) (Src.blk (rest := []) (by rw [List.append_nil]; exact h1) (by have := h1.lt; omega) HPA.out 32 (by rw [HLA.out]; omega)) (Src.blk (rest := []) (by rw [List.append_nil]; exact h2) (by have := h2.lt; omega) HPB.out 32 (by rw [HLB.out]; omega))
    exact for_any 3 2 2 _ _ [a, b] X (Lib.hid hT) (by omega) (Lib.hid hp) (Lib.hid rfl) (by omega) (Lib.hid (by simp [HLA.out, HLB.out]))
  have hBz : Below V.heap.size V V.drew := below_drewN (Below.refl _ _) 1
  have HAX0 : Hid (Blk V.drew w.heap.size 36 (w8 a)) := Lib.hid (HA.out.below hBz HA.out.lt)
  have HBX0 : Hid (Blk V.drew (w.heap.size + 1) 36 (w8 b)) := Lib.hid (HB.out.below hBz HB.out.lt)
  have HCX0 : Hid (Blk V.drew (w.heap.size + 1 + 1) 36 (w8 (List.replicate 32 0))) := Lib.hid (HC.out.below hBz HC.out.lt)
  have HWX0 : Hid (Below w.heap.size w V.drew) := Lib.hid (HW.out.trans (hBz.mono HW.out.size))
  clear hBz
  refine wp_region_held_drew (S := fun w' => Blk w' w.heap.size 36 (w8 a) ∧ Blk w' (w.heap.size + 1) 36 (w8 b)) (by kernel_rfl) (⟨HAX0.out, HBX0.out⟩) (fun hHeld => ?_)
  generalize V.drew = X0 at hHeld HAX0 HBX0 HCX0 HWX0 ⊢
  refine wpAnyH_take (i := 0) (v := .slice (some ⟨w.heap.size, 0, none⟩) 32 32) rfl (by kernel_rfl) (by kernel_rfl) (by kernel_rfl) (fun _ _ _ h => h) (Or.inl ⟨by rfl, by intro w' h; go_simp⟩) hHeld ?_
  show wpAnyH _ _ _ _ _ _ _ (Act.put _ (some 5) _) _
  simp only [Act.put, List.setIfInBounds_toArray, List.set_cons_zero, List.set_cons_succ]
  refine wpAnyH_take (i := 1) (v := .slice (some ⟨w.heap.size + 1, 0, none⟩) 32 32) rfl (by kernel_rfl) (by kernel_rfl) (by kernel_rfl) (fun _ _ _ h => h) (Or.inl ⟨by rfl, by intro w' h; go_simp⟩) hHeld ?_
  show wpAnyH _ _ _ _ _ _ _ (Act.put _ (some 6) _) _
  simp only [Act.put, List.setIfInBounds_toArray, List.set_cons_zero, List.set_cons_succ]
  refine wpAnyH_ready (rs := [2]) (by kernel_rfl) (by simp) ?_
  refine AllReadyH.cons rfl (fun K hK => ?_) AllReadyH.nil
  refine Kt.step_lay rfl 23 2 #[(0, .tmp 5), (1, .tmp 6)] rfl #[(0, .slice (some ⟨w.heap.size, 0, none⟩) 32 32), (1, .slice (some ⟨w.heap.size + 1, 0, none⟩) 32 32)] (by simp [Act.eval]) (.slice (some ⟨X0.heap.size, 0, none⟩) 2 2) (X0.alloc (.cells #[.slice (some ⟨w.heap.size, 0, none⟩) 32 32, .slice (some ⟨w.heap.size + 1, 0, none⟩) 32 32] 30)) (by kernel_rfl) ?_
  have hB : Below X0.heap.size X0 (X0.alloc (.cells #[.slice (some ⟨w.heap.size, 0, none⟩) 32 32, .slice (some ⟨w.heap.size + 1, 0, none⟩) 32 32] 30)) := (Below.refl _ _).alloc (Nat.le_refl _) _
  have hL := Blk.new X0 30 [.slice (some ⟨w.heap.size, 0, none⟩) 32 32, .slice (some ⟨w.heap.size + 1, 0, none⟩) 32 32]
  generalize X0.alloc (.cells #[.slice (some ⟨w.heap.size, 0, none⟩) 32 32, .slice (some ⟨w.heap.size + 1, 0, none⟩) 32 32] 30) = X1 at hB hL ⊢
  generalize X0.heap.size = gl at hL ⊢
  have HAX1 : Hid (Blk X1 w.heap.size 36 (w8 a)) := Lib.hid (HAX0.out.below hB HAX0.out.lt)
  have HBX1 : Hid (Blk X1 (w.heap.size + 1) 36 (w8 b)) := Lib.hid (HBX0.out.below hB HBX0.out.lt)
  have HCX1 : Hid (Blk X1 (w.heap.size + 1 + 1) 36 (w8 (List.replicate 32 0))) := Lib.hid (HCX0.out.below hB HCX0.out.lt)
  have HWX1 : Hid (Below w.heap.size w X1) := Lib.hid (HWX0.out.trans (hB.mono HWX0.out.size))
  have HLX1 : Hid (Blk X1 gl 30 [.slice (some ⟨w.heap.size, 0, none⟩) 32 32, .slice (some ⟨w.heap.size + 1, 0, none⟩) 32 32]) := Lib.hid (hL)
  clear HAX0 HBX0 HCX0 HWX0 hB hL
  refine hK.out _ _ (⟨HAX1.out, HBX1.out⟩) (fun hHeld => ?_)
  clear hK K
  show wpAnyH _ _ _ _ _ _ _ (Act.put _ (some 7) _) _
  simp only [Act.put, List.setIfInBounds_toArray, List.set_cons_zero, List.set_cons_succ]
  refine wpAnyH_ready (rs := [3]) (by kernel_rfl) (by simp) ?_
  refine AllReadyH.cons rfl (fun K hK => ?_) AllReadyH.nil
  refine step_call rfl 94 #[.const (.int .u8 3), .tmp 7] #[5, 23] rfl #[.int .u8 3, .slice (some ⟨gl, 0, none⟩) 2 2] (by simp [Act.eval]) (by go_simp) (HRF.out X1 gl HAX1.out HBX1.out HLX1.out (HT.out.below HWX1.out HT.out.lt)) ?_
  rintro e X2 ⟨rfl, hB⟩
  have HAX2 : Hid (Blk X2 w.heap.size 36 (w8 a)) := Lib.hid (HAX1.out.below hB HAX1.out.lt)
  have HBX2 : Hid (Blk X2 (w.heap.size + 1) 36 (w8 b)) := Lib.hid (HBX1.out.below hB HBX1.out.lt)
  have HCX2 : Hid (Blk X2 (w.heap.size + 1 + 1) 36 (w8 (List.replicate 32 0))) := Lib.hid (HCX1.out.below hB HCX1.out.lt)
  have HWX2 : Hid (Below w.heap.size w X2) := Lib.hid (HWX1.out.trans (hB.mono HWX1.out.size))
  have HLX2 : Hid (Blk X2 gl 30 [.slice (some ⟨w.heap.size, 0, none⟩) 32 32, .slice (some ⟨w.heap.size + 1, 0, none⟩) 32 32]) := Lib.hid (HLX1.out.below hB HLX1.out.lt)
  clear HAX1 HBX1 HCX1 HWX1 HLX1 hB
  refine ⟨_, rfl, hK.out _ _ (⟨HAX2.out, HBX2.out⟩) (fun hHeld => ?_)⟩
  clear hK K
  show wpAnyH _ _ _ _ _ _ _ (Act.put _ (some 8) _) _
  simp only [Act.put, List.setIfInBounds_toArray, List.set_cons_zero, List.set_cons_succ]
  refine wpAnyH_ready (rs := [4]) (by kernel_rfl) (by simp) ?_
  refine AllReadyH.cons rfl (fun K hK => ?_) AllReadyH.nil
  refine Kt.step_store rfl 36 (.tmp 4) (.tmp 8) rfl (w.heap.size + 1 + 1) (w8 (joinN a b)) rfl rfl 36 _ HCX2.out HS7.out HZ7.out HO7.out ?_
  intro X3 hZ hO
  have HAX3 : Hid (Blk X3 w.heap.size 36 (w8 a)) := Lib.hid (HAX2.out.grown hO (fun e => by injection e with e; omega))
  have HBX3 : Hid (Blk X3 (w.heap.size + 1) 36 (w8 b)) := Lib.hid (HBX2.out.grown hO (fun e => by injection e with e; omega))
  have HWX3 : Hid (Below w.heap.size w X3) := Lib.hid (HWX2.out.trans (only_up hO (by omega) HWX2.out.size))
  have HZX3 : Hid (Blk X3 (w.heap.size + 1 + 1) 36 (w8 (joinN a b))) := Lib.hid (hZ)
  clear HAX2 HBX2 HWX2 hZ hO
  refine hK.out _ _ (⟨HAX3.out, HBX3.out⟩) (fun hHeld => ?_)
  clear hK K
  show wpAnyH _ _ _ _ _ _ _ (Act.put _ none _) _
  simp only [Act.put]
  refine wpAnyH_done (by kernel_rfl) ?_ _
  clear hHeld
  go_wp2
  exact bodyPost_ret (v := .agg (w8 (joinN a b)).toArray) (results_cell_row Tryd.results82 _ _ (w.heap.size + 1 + 1) 36 (w8 (joinN a b)).toArray (0, 0) _ rfl HZX3.out Tryd.underlying36 rfl HS6.out) rfl ⟨rfl, HWX3.out⟩

set_option maxRecDepth 100000 in
set_option maxHeartbeats 2000000 in
theorem leaves_any (seed : List Nat) (m : Nat) (w : World) (HT : Hid (Tab w)) (HL : Hid (seed.length = 32)) (HP : Hid (∀ x ∈ seed, x < 256)) (hm : m ≤ 256) :
    Calls Tryd.prog 77 #[.agg (w8 seed).toArray, .int .i64 (m : Int)] w fun e w' => ∃ g, e = .returned (.slice (some ⟨g, 0, none⟩) m m) ∧ Blk w' g 36 (w8 (rows (leafN seed) m)) ∧ w.heap.size ≤ g ∧ Below w.heap.size w w' := by
  obtain ⟨i0, hi, hz0, hz1, hz2⟩ := info_parts info36f
  have HFL : Hid (∀ a, (leafN seed a).length = 32) := Lib.hid fun a => sha_length _
  have HSS : Hid ((Tryd.prog.info? 29).map (·.size) = some (w8 seed).length) := Lib.hid (by rw [w8_length, HL.out]; exact info29)
  go_enter Tryd.func77, Tryd.ntmps77
  go_upto_region 1 with fail
  have HS : Hid (Blk (w.alloc (.cells (w8 seed).toArray 29)) w.heap.size 29 (w8 seed)) := Lib.hid (Blk.new _ _ _)
  have HW : Hid (Below w.heap.size w (w.alloc (.cells (w8 seed).toArray 29))) := Lib.hid ((Below.refl _ _).alloc (Nat.le_refl _) _)
  generalize (w.alloc (.cells (w8 seed).toArray 29)) = V at HS HW ⊢
  go_wp2_with (at_make; refine wpList_make_full _ rfl (.tmp 7) (.tmp 7) 92 rfl w.heap.size 36 i0 (.agg zsum) 32 Tryd.underlying92 hi hz0 hz1 .i64 .i64 _ _ m rfl rfl ?c1 ?c2 ?c3 ?c4 ?c5 ?_)
  case c1 => omega
  case c2 => omega
  case c3 => rw [hz2]; omega
  case c4 => unfold maxLen; omega
  case c5 => exact HW.out.size
  intro w1 hown hg
  have hB1 : Below V.heap.size V w1 := (Below.refl _ _).grown hg (Nat.le_refl _) (by simp)
  obtain ⟨hr, hbase⟩ := own_full hown
  rw [made_sums, ← sumsC_zero (leafN seed) m] at hr
  have HR := Lib.hid hr
  have HS1 := Lib.hid (HS.out.below hB1 HS.out.lt)
  have HW1 := Lib.hid (HW.out.trans (hB1.mono HW.out.size))
  have hgs : w.heap.size < V.heap.size := HS.out.lt
  generalize V.heap.size = g at *
  clear hown hg hB1 hr
  go_wp2_with fail
  go_loopw [10, 6] (fun i _ wr => ∃ (k : Nat), k ≤ m ∧ i = .int .i64 k ∧ Hid (Blk wr w.heap.size 29 (w8 seed)) ∧ Hid (Blk wr g 36 (w8 (sumsC (leafN seed) m k))) ∧ Hid (Below w.heap.size w wr)) (fun i _ _ => m - (intOf i).toNat)
  case atStart => exact ⟨0, Nat.zero_le _, rfl, HS1, HR, HW1⟩
  case round =>
    clear HS1 HR HW1
    obtain ⟨k, hk, rfl, HS1, HR, HW1⟩ := hrel
    by_cases hlt : k < m
    · have k1 : (k : Int) < 4294967296 := by omega
      have hwr : g < wr.heap.size := HR.out.lt
      have HRG := Lib.hid HS1.out.all
      go_wp2_with (first | (refine wpList_load_mid rfl 29 (.tmp 2) rfl w.heap.size 0 rfl (w8 seed) _ HRG.out Tryd.underlying29 rfl HSS.out ?_))
      refine (lampnew_any seed k wr HL (by omega)).mono ?_
      rintro e X1 ⟨rfl, hB⟩
      have HS2 := Lib.hid (HS1.out.below hB HS1.out.lt)
      have HR2 := Lib.hid (HR.out.below hB HR.out.lt)
      have HW2 := Lib.hid (HW1.out.trans (hB.mono HW1.out.size))
      clear hB HRG HS1 HR HW1
      go_wp2_with fail
      refine (leaf_any seed k X1 (Lib.hid (HT.out.below HW2.out HT.out.lt)) HL HP (by omega)).mono ?_
      rintro e X2 ⟨rfl, hB⟩
      have HS3 := Lib.hid (HS2.out.below hB HS2.out.lt)
      have HR3 := Lib.hid (HR2.out.below hB HR2.out.lt)
      have HW3 := Lib.hid (HW2.out.trans (hB.mono HW2.out.size))
      clear hB HS2 HR2 HW2
      have HTH : Hid (X2.there g (k * 32) (w8 (leafN seed k)).length) := Lib.hid (HR3.out.there _ _ (by rw [w8_length, w8_length, HFL.out, sumsC_length _ HFL.out m k hk]; omega))
      have HI7 : Hid ((Tryd.prog.info? 36).map (·.size) = some (w8 (leafN seed k)).length) := Lib.hid (by rw [w8_length, HFL.out]; exact info36)
      go_wp2_with (first | (refine wpList_put_mid rfl 36 (.tmp 20) (.tmp 19) rfl g (k * 32) (w8 (leafN seed k)) rfl rfl HTH.out HI7.out (w8_one _) ?_))
      have HS4 := Lib.hid (HS3.out.farCells (b := g) (o := k * 32) (by omega) (w8 (leafN seed k)))
      have HR4 := Lib.hid (Blk.put8' (leafN seed) HFL.out m k hlt HR3.out)
      have HW4 := Lib.hid (below_cells (g := g) (w8 (leafN seed k)) (k * 32) X2 HW3.out (by omega))
      generalize X2.setCells g (k * 32) (w8 (leafN seed k)) = D at HS4 HR4 HW4 ⊢
      clear HS3 HR3 HW3 HTH
      go_wp2
      go_roundw
      case rel => exact ⟨k + 1, by omega, by go_num, HS4, HR4, HW4⟩
      case measure => simp [intOf]; omega
    · obtain rfl : k = m := by omega
      go_wp2
      go_ret
      exact ⟨g, rfl, by rw [← sumsC_end]; exact HR.out, by omega, HW1.out⟩
end Go.Proofs.YtkonokjhpddbfaaDoor
namespace Go.Proofs.YtkonokjhpddbfaaDoor
open Go.RowKit
set_option linter.unusedVariables false

set_option maxRecDepth 100000 in
set_option maxHeartbeats 2000000 in
theorem above_any (f : Nat → List Nat) (m gs cs : Nat) (w : World) (HT : Hid (Tab w)) (HF : Hid (∀ a, (f a).length = 32)) (HP : Hid (∀ a, ∀ x ∈ f a, x < 256)) (HS : Hid (Blk w gs 36 (w8 (rows f (2 * m))))) (hm : m ≤ 128) :
    Calls Tryd.prog 78 #[.slice (some ⟨gs, 0, none⟩) (2 * m) cs] w fun e w' => ∃ g, e = .returned (.slice (some ⟨g, 0, none⟩) m m) ∧ Blk w' g 36 (w8 (rows (fun n => joinN (f (2 * n)) (f (2 * n + 1))) m)) ∧ w.heap.size ≤ g ∧ Below w.heap.size w w' := by
  obtain ⟨i0, hi, hz0, hz1, hz2⟩ := info_parts info36f
  obtain ⟨q, hq⟩ : ∃ q : Nat → List Nat, q = fun n => joinN (f (2 * n)) (f (2 * n + 1)) := ⟨_, rfl⟩
  have HQ : Hid (∀ n, q n = joinN (f (2 * n)) (f (2 * n + 1))) := Lib.hid fun n => by rw [hq]
  have HQF : Hid (∀ n, (q n).length = 32) := Lib.hid fun n => by rw [hq]; exact joinN_length _ _
  rw [← hq]
  clear hq
  have hgs : gs < w.heap.size := HS.out.lt
  go_enter Tryd.func78, Tryd.ntmps78
  go_wp2_with (at_make; refine wpList_make_full _ rfl (.tmp 7) (.tmp 7) 92 rfl w.heap.size 36 i0 (.agg zsum) 32 Tryd.underlying92 hi hz0 hz1 .i64 .i64 _ _ m rfl rfl ?c1 ?c2 ?c3 ?c4 ?c5 ?_)
  case c1 => omega
  case c2 => omega
  case c3 => rw [hz2]; omega
  case c4 => unfold maxLen; omega
  case c5 => exact Nat.le_refl _
  intro w1 hown hg
  have hB1 : Below w.heap.size w w1 := (Below.refl _ _).grown hg (Nat.le_refl _) (by simp)
  obtain ⟨hr, hbase⟩ := own_full hown
  rw [made_sums, ← sumsC_zero q m] at hr
  have HR0 := Lib.hid hr
  have HS0 := Lib.hid (HS.out.below hB1 hgs)
  have HW0 := Lib.hid hB1
  obtain ⟨g, hg0⟩ : ∃ x, w.heap.size = x := ⟨_, rfl⟩
  rw [hg0] at HR0 ⊢
  have hgw : w.heap.size ≤ g := by omega
  have hsg : gs < g := by omega
  clear hown hg hB1 hr hg0 HS
  go_wp2_with fail
  go_loopw [11, 4] (fun i _ wr => ∃ (k : Nat), k ≤ m ∧ i = .int .i64 k ∧ Hid (Blk wr gs 36 (w8 (rows f (2 * m)))) ∧ Hid (Blk wr g 36 (w8 (sumsC q m k))) ∧ Hid (Below w.heap.size w wr)) (fun i _ _ => m - (intOf i).toNat)
  case atStart => exact ⟨0, Nat.zero_le _, rfl, HS0, HR0, HW0⟩
  case round =>
    clear HS0 HR0 HW0
    obtain ⟨k, hk, rfl, HS, HR, HW⟩ := hrel
    by_cases hlt : k < m
    · have k1 : (k : Int) < 128 := by omega
      have k2 : (k : Int) < (m : Int) := by omega
      have hwr : g < wr.heap.size := HR.out.lt
      have hw1 : IntKind.i64.wrap (2 * (k : Int)) = 2 * (k : Int) := by rw [IntKind.wrap_i64]; omega
      have hw2 : IntKind.i64.wrap (2 * (k : Int) + 1) = 2 * (k : Int) + 1 := by rw [IntKind.wrap_i64]; omega
      have hn1 : (2 * (k : Int)).toNat = 2 * k := by omega
      have hn2 : (2 * (k : Int) + 1).toNat = 2 * k + 1 := by omega
      have HI0 : Hid ((Tryd.prog.info? 36).map (·.size) = some (w8 (f (2 * k))).length) := Lib.hid (by rw [w8_length, HF.out]; exact info36)
      have HI1 : Hid ((Tryd.prog.info? 36).map (·.size) = some (w8 (f (2 * k + 1))).length) := Lib.hid (by rw [w8_length, HF.out]; exact info36)
      have HI7 : Hid ((Tryd.prog.info? 36).map (·.size) = some (w8 (q k)).length) := Lib.hid (by rw [w8_length, HQF.out]; exact info36)
      go_upto_region 5 with fail
      have hBz : Below wr.heap.size wr wr.drew := below_drewN (Below.refl _ _) 1
      have HSX0 : Hid (Blk wr.drew gs 36 (w8 (rows f (2 * m)))) := Lib.hid (HS.out.below hBz HS.out.lt)
      have HRX0 : Hid (Blk wr.drew g 36 (w8 (sumsC q m k))) := Lib.hid (HR.out.below hBz HR.out.lt)
      have HWX0 : Hid (Below w.heap.size w wr.drew) := Lib.hid (HW.out.trans (hBz.mono HW.out.size))
      clear hBz
      refine wp_region_held_drew (S := fun w' => Blk w' gs 36 (w8 (rows f (2 * m)))) (by kernel_rfl) (HSX0.out) (fun hHeld => ?_)
      generalize wr.drew = X0 at hHeld HSX0 HRX0 HWX0 ⊢
      refine wpAnyH_take (i := 0) (v := .slice (some ⟨g, 0, none⟩) m m) rfl (by kernel_rfl) (by kernel_rfl) (by kernel_rfl) (fun _ _ _ h => h) (Or.inl ⟨by rfl, fun w _ => by rfl⟩) hHeld ?_
      show wpAnyH _ _ _ _ _ _ _ (Act.put _ (some 14) _) _
      simp only [Act.put, List.setIfInBounds_toArray, List.set_cons_zero, List.set_cons_succ]
      refine wpAnyH_take (i := 1) (v := .int .i64 (k : Int)) rfl (by kernel_rfl) (by kernel_rfl) (by kernel_rfl) (fun _ _ _ h => h) (Or.inl ⟨by rfl, fun w _ => by rfl⟩) hHeld ?_
      show wpAnyH _ _ _ _ _ _ _ (Act.put _ (some 15) _) _
      simp only [Act.put, List.setIfInBounds_toArray, List.set_cons_zero, List.set_cons_succ]
      refine wpAnyH_take (i := 2) (v := .slice (some ⟨gs, 0, none⟩) (2 * m) cs) rfl (by kernel_rfl) (by kernel_rfl) (by kernel_rfl) (fun _ _ _ h => h) (Or.inl ⟨by rfl, fun w _ => by rfl⟩) hHeld ?_
      show wpAnyH _ _ _ _ _ _ _ (Act.put _ (some 16) _) _
      simp only [Act.put, List.setIfInBounds_toArray, List.set_cons_zero, List.set_cons_succ]
      refine wpAnyH_take (i := 3) (v := .int .i64 (k : Int)) rfl (by kernel_rfl) (by kernel_rfl) (by kernel_rfl) (fun _ _ _ h => h) (Or.inl ⟨by rfl, fun w _ => by rfl⟩) hHeld ?_
      show wpAnyH _ _ _ _ _ _ _ (Act.put _ (some 17) _) _
      simp only [Act.put, List.setIfInBounds_toArray, List.set_cons_zero, List.set_cons_succ]
      refine wpAnyH_take (i := 4) (v := .int .i64 (2 * (k : Int))) rfl (by kernel_rfl) (by kernel_rfl) (by kernel_rfl) (fun _ _ _ h => h) (Or.inl ⟨by rfl, by intro w' h; go_simp⟩) hHeld ?_
      show wpAnyH _ _ _ _ _ _ _ (Act.put _ (some 18) _) _
      simp only [Act.put, List.setIfInBounds_toArray, List.set_cons_zero, List.set_cons_succ]
      refine wpAnyH_take (i := 5) (v := .pointer (some ⟨gs, 2 * k * 32, none⟩)) rfl (by kernel_rfl) (by kernel_rfl) (by kernel_rfl) (fun _ _ _ h => h) (Or.inl ⟨by rfl, by intro w' h; go_simp; first | done | (intro hneg; omega)⟩) hHeld ?_
      show wpAnyH _ _ _ _ _ _ _ (Act.put _ (some 19) _) _
      simp only [Act.put, List.setIfInBounds_toArray, List.set_cons_zero, List.set_cons_succ]
      refine wpAnyH_take (i := 6) (v := .agg (w8 (f (2 * k))).toArray) rfl (by kernel_rfl) (by kernel_rfl) (by kernel_rfl) (fun _ _ _ h => h) (yieldsIf_load_mid (by rfl) 36 (.tmp 19) rfl gs (2 * k * 32) rfl (w8 (f (2 * k))) _ (fun w' h => Blk.sum_at f HF.out (2 * m) _ (by omega) h _ rfl) Tryd.underlying36 rfl HI0.out) hHeld ?_
      show wpAnyH _ _ _ _ _ _ _ (Act.put _ (some 20) _) _
      simp only [Act.put, List.setIfInBounds_toArray, List.set_cons_zero, List.set_cons_succ]
      refine wpAnyH_take (i := 7) (v := .slice (some ⟨gs, 0, none⟩) (2 * m) cs) rfl (by kernel_rfl) (by kernel_rfl) (by kernel_rfl) (fun _ _ _ h => h) (Or.inl ⟨by rfl, fun w _ => by rfl⟩) hHeld ?_
      show wpAnyH _ _ _ _ _ _ _ (Act.put _ (some 21) _) _
      simp only [Act.put, List.setIfInBounds_toArray, List.set_cons_zero, List.set_cons_succ]
      refine wpAnyH_take (i := 8) (v := .int .i64 (k : Int)) rfl (by kernel_rfl) (by kernel_rfl) (by kernel_rfl) (fun _ _ _ h => h) (Or.inl ⟨by rfl, fun w _ => by rfl⟩) hHeld ?_
      show wpAnyH _ _ _ _ _ _ _ (Act.put _ (some 22) _) _
      simp only [Act.put, List.setIfInBounds_toArray, List.set_cons_zero, List.set_cons_succ]
      refine wpAnyH_take (i := 9) (v := .int .i64 (2 * (k : Int))) rfl (by kernel_rfl) (by kernel_rfl) (by kernel_rfl) (fun _ _ _ h => h) (Or.inl ⟨by rfl, by intro w' h; go_simp⟩) hHeld ?_
      show wpAnyH _ _ _ _ _ _ _ (Act.put _ (some 23) _) _
      simp only [Act.put, List.setIfInBounds_toArray, List.set_cons_zero, List.set_cons_succ]
      refine wpAnyH_take (i := 10) (v := .int .i64 (2 * (k : Int) + 1)) rfl (by kernel_rfl) (by kernel_rfl) (by kernel_rfl) (fun _ _ _ h => h) (Or.inl ⟨by rfl, by intro w' h; go_simp⟩) hHeld ?_
      show wpAnyH _ _ _ _ _ _ _ (Act.put _ (some 24) _) _
      simp only [Act.put, List.setIfInBounds_toArray, List.set_cons_zero, List.set_cons_succ]
      refine wpAnyH_take (i := 11) (v := .pointer (some ⟨gs, (2 * k + 1) * 32, none⟩)) rfl (by kernel_rfl) (by kernel_rfl) (by kernel_rfl) (fun _ _ _ h => h) (Or.inl ⟨by rfl, by intro w' h; go_simp; first | done | (intro hneg; omega)⟩) hHeld ?_
      show wpAnyH _ _ _ _ _ _ _ (Act.put _ (some 25) _) _
      simp only [Act.put, List.setIfInBounds_toArray, List.set_cons_zero, List.set_cons_succ]
      refine wpAnyH_take (i := 12) (v := .agg (w8 (f (2 * k + 1))).toArray) rfl (by kernel_rfl) (by kernel_rfl) (by kernel_rfl) (fun _ _ _ h => h) (yieldsIf_load_mid (by rfl) 36 (.tmp 25) rfl gs ((2 * k + 1) * 32) rfl (w8 (f (2 * k + 1))) _ (fun w' h => Blk.sum_at f HF.out (2 * m) _ (by omega) h _ rfl) Tryd.underlying36 rfl HI1.out) hHeld ?_
      show wpAnyH _ _ _ _ _ _ _ (Act.put _ (some 26) _) _
      simp only [Act.put, List.setIfInBounds_toArray, List.set_cons_zero, List.set_cons_succ]
      refine wpAnyH_ready (rs := [13]) (by kernel_rfl) (by simp) ?_
      refine AllReadyH.cons rfl (fun K hK => ?_) AllReadyH.nil
      refine step_call rfl 82 #[.tmp 20, .tmp 26] #[36, 36] rfl #[.agg (w8 (f (2 * k))).toArray, .agg (w8 (f (2 * k + 1))).toArray] (by simp [Act.eval]) (by go_simp) (join_any (f (2 * k)) (f (2 * k + 1)) X0 (Lib.hid (HT.out.below HWX0.out HT.out.lt)) (Lib.hid (HF.out _)) (Lib.hid (HP.out _)) (Lib.hid (HF.out _)) (Lib.hid (HP.out _))) ?_
      rintro e X1 ⟨rfl, hB⟩
      have HSX1 : Hid (Blk X1 gs 36 (w8 (rows f (2 * m)))) := Lib.hid (HSX0.out.below hB HSX0.out.lt)
      have HRX1 : Hid (Blk X1 g 36 (w8 (sumsC q m k))) := Lib.hid (HRX0.out.below hB HRX0.out.lt)
      have HWX1 : Hid (Below w.heap.size w X1) := Lib.hid (HWX0.out.trans (hB.mono HWX0.out.size))
      clear HSX0 HRX0 HWX0 hB
      refine ⟨_, rfl, hK.out _ _ (HSX1.out) (fun hHeld => ?_)⟩
      clear hK K
      show wpAnyH _ _ _ _ _ _ _ (Act.put _ (some 27) _) _
      simp only [Act.put, List.setIfInBounds_toArray, List.set_cons_zero, List.set_cons_succ]
      refine wpAnyH_take (i := 14) (v := .pointer (some ⟨g, k * 32, none⟩)) rfl (by kernel_rfl) (by kernel_rfl) (by kernel_rfl) (fun _ _ _ h => h) (Or.inl ⟨by rfl, by intro w' h; go_simp⟩) hHeld ?_
      show wpAnyH _ _ _ _ _ _ _ (Act.put _ (some 28) _) _
      simp only [Act.put, List.setIfInBounds_toArray, List.set_cons_zero, List.set_cons_succ]
      refine wpAnyH_ready (rs := [15]) (by kernel_rfl) (by simp) ?_
      refine AllReadyH.cons rfl (fun K hK => ?_) AllReadyH.nil
      refine step_store_mid rfl 36 (.tmp 28) (.tmp 27) rfl g (k * 32) (w8 (q k)) rfl (by rw [HQ.out]; rfl) (HRX1.out.there _ _ (by rw [w8_length, w8_length, HQF.out, sumsC_length _ HQF.out m k hk]; omega)) HI7.out (w8_one _) ?_
      have HSX2 := Lib.hid (HSX1.out.farCells (b := g) (o := k * 32) (by omega) (w8 (q k)))
      have HRX2 := Lib.hid (Blk.put8' q HQF.out m k hlt HRX1.out)
      have HWX2 := Lib.hid (below_cells (g := g) (w8 (q k)) (k * 32) X1 HWX1.out hgw)
      generalize X1.setCells g (k * 32) (w8 (q k)) = X2 at HSX2 HRX2 HWX2 ⊢
      clear HSX1 HRX1 HWX1
      refine hK.out _ _ (HSX2.out) (fun hHeld => ?_)
      clear hK K
      show wpAnyH _ _ _ _ _ _ _ (Act.put _ none _) _
      simp only [Act.put]
      refine wpAnyH_done (by kernel_rfl) ?_ _
      clear hHeld
      go_wp2
      go_roundw
      case rel => exact ⟨k + 1, by omega, by go_num, HSX2, HRX2, HWX2⟩
      case measure => simp [intOf]; omega
    · obtain rfl : k = m := by omega
      go_wp2
      go_ret
      exact ⟨g, rfl, by rw [← sumsC_end]; exact HR.out, hgw, HW.out⟩
end Go.Proofs.YtkonokjhpddbfaaDoor
namespace Go.Proofs.YtkonokjhpddbfaaDoor
open Go.RowKit
set_option linter.unusedVariables false

def bl (l : List Bool) : List Value := l.map Value.bool
theorem bl_length (l : List Bool) : (bl l).length = l.length := by simp [bl]
theorem bl_get (l : List Bool) (i : Nat) (h : i < l.length) : (bl l)[i]? = some (.bool (l.getD i false)) := by simp [bl, List.getD, h]
theorem bl_set (l : List Bool) (i : Nat) (b : Bool) : (bl l).set i (.bool b) = bl (l.set i b) := by simp [bl, List.map_set]
/-- A ring's cells. -/
def ringC (seed : List Nat) (v : Value) (root : List Nat) (tk : List Bool) : List Value := w8 seed ++ (v :: (w8 root ++ bl tk))
section
variable {seed root : List Nat} {v : Value} {tk : List Bool}
theorem ringC_length (h1 : seed.length = 32) (h2 : root.length = 32) (h3 : tk.length = 256) : (ringC seed v root tk).length = 321 := by
  simp [ringC, w8_length, bl_length, h1, h2, h3]
theorem ringC_rows (h1 : seed.length = 32) : (ringC seed v root tk)[32]? = some v := by
  unfold ringC
  rw [List.getElem?_append_right (by rw [w8_length]; omega), w8_length, h1]
  rfl
theorem ringC_set (h1 : seed.length = 32) (u : Value) : (ringC seed v root tk).set 32 u = ringC seed u root tk := by
  unfold ringC
  rw [List.set_append_right _ _ (by rw [w8_length]; omega), w8_length, h1]
  rfl
theorem ringC_taken (h1 : seed.length = 32) (h2 : root.length = 32) (h3 : tk.length = 256) (k : Nat) (hk : k < 256) : (ringC seed v root tk)[65 + k]? = some (.bool (tk.getD k false)) := by
  unfold ringC
  rw [List.getElem?_append_right (by rw [w8_length]; omega), w8_length, h1, show 65 + k - 32 = (32 + k) + 1 by omega, List.getElem?_cons_succ, List.getElem?_append_right (by rw [w8_length]; omega), w8_length, h2, show 32 + k - 32 = k by omega, bl_get tk k (by omega)]
theorem ringC_take (h1 : seed.length = 32) (h2 : root.length = 32) (k : Nat) (b : Bool) : (ringC seed v root tk).set (65 + k) (.bool b) = ringC seed v root (tk.set k b) := by
  unfold ringC
  rw [List.set_append_right _ _ (by rw [w8_length]; omega), w8_length, h1, show 65 + k - 32 = (32 + k) + 1 by omega, List.set_cons_succ, List.set_append_right _ _ (by rw [w8_length]; omega), w8_length, h2, show 32 + k - 32 = k by omega, bl_set]
theorem ringC_seed {w : World} {g : Nat} {t : TypeId} (h : Blk w g t (ringC seed v root tk)) (h1 : seed.length = 32) : w.rangeAt g 0 (w8 seed) := by
  have h2 := h.range 0 32
  unfold ringC at h2
  rw [List.drop_zero, List.take_append_of_le_length (by rw [w8_length]; omega), List.take_of_length_le (by rw [w8_length]; omega)] at h2
  exact h2
theorem ringC_root {w : World} {g : Nat} {t : TypeId} (h : Blk w g t (ringC seed v root tk)) (h1 : seed.length = 32) (h2 : root.length = 32) : w.rangeAt g 33 (w8 root) := by
  have h3 := h.range 33 32
  unfold ringC at h3
  rw [List.drop_append, w8_length, h1, List.drop_eq_nil_of_le (by rw [w8_length]; omega), List.nil_append, show 33 - 32 = 0 + 1 from rfl, List.drop_succ_cons, List.drop_zero, List.take_append_of_le_length (by rw [w8_length]; omega), List.take_of_length_le (by rw [w8_length]; omega)] at h3
  exact h3
end
def pw (n : Nat) : Nat := 2 ^ n
theorem pw_succ (n : Nat) : pw (n + 1) = 2 * pw n := by unfold pw; rw [Nat.pow_succ']
theorem pw_le (n : Nat) (h : n ≤ 8) : pw n ≤ 256 := by unfold pw; exact Nat.pow_le_pow_right (by omega) h
theorem pw_pos (n : Nat) : 0 < pw n := Nat.pow_pos (by omega)
/-- Rows of sums so far. -/
def RowsAt (w : World) (base : Nat) (v : Value) (seed : List Nat) (tall k : Nat) : Prop :=
  ∃ ws : List Value, w.ownsRow base 92 1 v k ws ∧ ∀ i, i < k → ∃ gi, ws[i]? = some (.slice (some ⟨gi, 0, none⟩) (pw (tall - i)) (pw (tall - i))) ∧ base ≤ gi ∧ Blk w gi 36 (w8 (rows (levN seed i) (pw (tall - i))))
section
variable {w w' : World} {base : Nat} {v : Value} {seed : List Nat} {tall k : Nat}
theorem own_block {t : TypeId} {size n : Nat} {xs : List Value} (h : w.ownsRow base t size v n xs) {g : Nat} (hg : v.ownBlock = some g) : ∃ cs, Blk w g t cs := by
  rcases h.2 with ⟨rfl, _⟩ | ⟨g', cap, cur, rfl, _, hgg, _⟩
  · cases hg
  · injection hg with hg
    subst hg
    exact ⟨cur.toList, by unfold Blk; rw [hgg]⟩
theorem RowsAt.below (h : RowsAt w base v seed tall k) (hB : Below w.heap.size w w') : RowsAt w' base v seed tall k := by
  obtain ⟨ws, ho, hc⟩ := h
  refine ⟨ws, ho.kept (row := none) ⟨hB.os, hB.tape, hB.output, hB.size, fun i hi _ => hB.block i hi⟩ (by cases v.ownBlock <;> simp), fun i hi => ?_⟩
  obtain ⟨gi, h1, h2, h3⟩ := hc i hi
  exact ⟨gi, h1, h2, h3.below hB h3.lt⟩
theorem RowsAt.far (h : RowsAt w base v seed tall k) {g : Nat} {t : TypeId} {cs : List Value} (hO : w.grownBy w' (some g)) (hg : Blk w g t cs) (h92 : t ≠ 92) (h36 : t ≠ 36) : RowsAt w' base v seed tall k := by
  obtain ⟨ws, ho, hc⟩ := h
  refine ⟨ws, ho.kept hO ?_, fun i hi => ?_⟩
  · right
    intro e
    obtain ⟨cs', hb⟩ := own_block ho e
    exact h92 (by
      unfold Blk at hb hg
      rw [hb] at hg
      injection hg with hg
      injection hg with _ hg
      exact hg.symm)
  · obtain ⟨gi, h1, h2, h3⟩ := hc i hi
    refine ⟨gi, h1, h2, h3.grown hO ?_⟩
    intro e
    injection e with e
    subst e
    exact Blk.ne_ hg h3 h36 rfl
end
/-- A ring. -/
structure RingAt (w : World) (base g : Nat) (seed : List Nat) (tall : Nat) (tk : List Bool) (v : Value) : Prop where
  bas : base ≤ g
  blk : Blk w g 140 (ringC seed v (rootN seed tall) tk)
  rows : RowsAt w base v seed tall tall
  len : seed.length = 32
  lt : ∀ x ∈ seed, x < 256
  tk : tk.length = 256
  tall : tall ≤ 8
section
variable {w w' : World} {base g : Nat} {v : Value} {seed : List Nat} {tall : Nat} {tk : List Bool}
theorem rootN_length (seed : List Nat) (tall : Nat) : (rootN seed tall).length = 32 := levN_length _ _ _
theorem RingAt.below (h : RingAt w base g seed tall tk v) (hB : Below w.heap.size w w') : RingAt w' base g seed tall tk v :=
  ⟨h.bas, h.blk.below hB h.blk.lt, h.rows.below hB, h.len, h.lt, h.tk, h.tall⟩
theorem RingAt.mono {b : Nat} (h : RingAt w base g seed tall tk v) (hb : b ≤ base) : RingAt w b g seed tall tk v := by
  obtain ⟨ws, ho, hc⟩ := h.rows
  refine ⟨Nat.le_trans hb h.bas, h.blk, ⟨ws, ⟨ho.1, ?_⟩, fun i hi => ?_⟩, h.len, h.lt, h.tk, h.tall⟩
  · rcases ho.2 with h0 | ⟨g', cap, cur, h1, h2, h3⟩
    · exact .inl h0
    · exact .inr ⟨g', cap, cur, h1, Nat.le_trans hb h2, h3⟩
  · obtain ⟨gi, h1, h2, h3⟩ := hc i hi
    exact ⟨gi, h1, Nat.le_trans hb h2, h3⟩
/-- A key is noted. -/
theorem RingAt.spend (h : RingAt w base g seed tall tk v) (k : Nat) : RingAt (w.setCell ⟨g, 65 + k, none⟩ (.bool true)) base g seed tall (tk.set k true) v := by
  have hb := h.blk.set_ (65 + k) (.bool true)
  rw [ringC_take h.len (rootN_length _ _)] at hb
  exact ⟨h.bas, hb, h.rows.far (only_setCell (only_refl w _) (.inl rfl) _) h.blk (by decide) (by decide), h.len, h.lt, by simp [h.tk], h.tall⟩
theorem RingAt.other (h : RingAt w base g seed tall tk v) {g2 : Nat} {t : TypeId} {cs : List Value} (hO : w.grownBy w' (some g2)) (hg : Blk w g2 t cs) (h92 : t ≠ 92) (h36 : t ≠ 36) (h140 : t ≠ 140) : RingAt w' base g seed tall tk v :=
  ⟨h.bas, h.blk.grown hO (by intro e; injection e with e; subst e; exact Blk.ne_ hg h.blk h140 rfl), h.rows.far hO hg h92 h36, h.len, h.lt, h.tk, h.tall⟩
end
end Go.Proofs.YtkonokjhpddbfaaDoor
namespace Go.Proofs.YtkonokjhpddbfaaDoor
open Go.RowKit
set_option linter.unusedVariables false

/-- A ring as it is made. -/
def ring0 (seed : List Nat) : List Value := ringC seed (.slice none 0 0) (List.replicate 32 0) (List.replicate 256 false)
theorem info92f : (Tryd.prog.info? 92).map (fun i => (i.zero, i.size, i.bytes)) = some (some (.slice none 0 0), 1, 24) := by kernel_rfl
theorem built140 (parts : List (Nat × Value)) : Tryd.prog.built 140 parts = Instr.fill (#[(0, 32), (32, 1), (33, 32), (65, 256)][·]?) (w8 (List.replicate 32 0) ++ ((Value.slice none 0 0 :: (w8 (List.replicate 32 0) ++ bl (List.replicate 256 false))))).toArray parts := by kernel_rfl
theorem build140 (seed : List Nat) (h : seed.length = 32) (w : World) : (Instr.build 140 #[(0, .agg (w8 seed).toArray)]).run Tryd.prog w = .ok (.agg (ring0 seed).toArray) w := by
  refine run_build w 140 _ _ ?_
  rw [built140]
  have h1 := fill_part (#[(0, 32), (32, 1), (33, 32), (65, 256)][·]?) [] (w8 (List.replicate 32 0)) ((Value.slice none 0 0 :: (w8 (List.replicate 32 0) ++ bl (List.replicate 256 false)))) (w8 seed) 0 (.agg (w8 seed).toArray) [] rfl (by simp [w8_length, h]) (by simp [w8_length, h])
  rw [List.nil_append, List.nil_append] at h1
  refine h1.trans ?_
  rw [fill_none]
  rfl
theorem run_shl_pw (tall : Nat) (w : World) (ht : tall ≤ 8) {o : Oper} {a : Act} (ho : o.op = .binOp .shl 3 (.const (.int .i64 1)) (.tmp 18) 3 := by rfl) (hx : a.eval (.tmp 18) = .int .i64 (tall : Int) := by rfl) : (execOp a.eval o).run Tryd.prog w = .ok (.value (.int .i64 ((pw tall : Nat) : Int))) w := by
  have h : ∀ n : Nat, n ≤ 8 → (binOp .shl 3 (.int .i64 1) (.int .i64 (n : Int))).run Tryd.prog w = .ok (.int .i64 ((pw n : Nat) : Int)) w := by
    intro n hn
    have h9 : n = 0 ∨ n = 1 ∨ n = 2 ∨ n = 3 ∨ n = 4 ∨ n = 5 ∨ n = 6 ∨ n = 7 ∨ n = 8 := by omega
    rcases h9 with rfl | rfl | rfl | rfl | rfl | rfl | rfl | rfl | rfl <;> (show _ = _; kernel_rfl)
  have hg : ∀ v, (eqGuard .shl 3 (.const (.int .i64 1)) (.tmp 18) (.int .i64 1) v).run Tryd.prog w = .ok () w := fun v => by kernel_rfl
  unfold execOp
  have h1 : a.eval (.const (.int .i64 1)) = .int .i64 1 := rfl
  simp only [ho, hx, h1, Sem.run_bind, hg, h tall ht, Result.andThen_ok, Sem.run_pure]
theorem ringC_put {w : World} {g : Nat} {t : TypeId} {seed r0 r1 : List Nat} {v : Value} {tk : List Bool} (h : Blk w g t (ringC seed v r0 tk)) (h1 : seed.length = 32) (h2 : r0.length = 32) (h3 : r1.length = 32) : Blk (w.setCells g 33 (w8 r1)) g t (ringC seed v r1 tk) := by
  have e : ∀ r, ringC seed v r tk = (w8 seed ++ [v]) ++ (w8 r ++ bl tk) := fun r => by simp [ringC]
  rw [e] at h ⊢
  have h4 := Blk.setMid (bl tk) (w8 r1) w (w8 seed ++ [v]) (w8 r0) (by rw [w8_length, w8_length, h2, h3]) h
  rw [List.length_append, w8_length, h1] at h4
  exact h4

section
variable {P : Program} {ops : Array Oper} {o : Oper} {a : Act} {w : World} {Q : Exit → Act → World → Prop}
theorem wpList_append_run_ {rest : List Oper} (hgd : o.guard = none) (s x : Operand) (t t2 : TypeId) (ho : o.op = .call { callee := .builtin .append, args := #[s, x], argTypes := #[t, t2] }) (v : Value) (W : World)
    (hb : ∀ ty, (Builtin.append_ #[t, t2] ty #[a.eval s, a.eval x]).run P w = .ok v W) (h : wpList P ops Q rest (a.put o.dst v) W) : wpList P ops Q (o :: rest) a w := by
  refine wpList_plain hgd fun K hK => ?_
  have hrun := hb o.type
  unfold Oper.wp
  simp [execOp, ho, resolve, invoke, builtin, hrun, Result.andThen]
  exact hK _ _ h
end

theorem only_cells {g : Nat} : ∀ (vs : List Value) (o : Nat) (w : World), w.grownBy (w.setCells g o vs) (some g)
  | [], o, w => only_refl w _
  | v :: vs, o, w => (only_setCell (only_refl w _) (.inl rfl) v).trans (only_cells vs (o + 1) _)

set_option maxRecDepth 100000 in
set_option maxHeartbeats 2000000 in
theorem new_ring (seed : List Nat) (tall : Nat) (w : World) (HT : Hid (Tab w)) (HL : Hid (seed.length = 32)) (HP : Hid (∀ x ∈ seed, x < 256)) (ht : tall ≤ 8) :
    Calls Tryd.prog 43 #[.agg (w8 seed).toArray, .int .i64 (tall : Int)] w fun e w' => ∃ g v, e = .returned (.tuple #[.pointer (some ⟨g, 0, none⟩), .int .i64 0]) ∧ RingAt w' w.heap.size g seed tall (List.replicate 256 false) v ∧ Below w.heap.size w w' := by
  have t1 : (tall : Int) ≤ 8 := by omega
  have t0 : (0 : Int) ≤ (tall : Int) := by omega
  have HSS : Hid ((Tryd.prog.info? 29).map (·.size) = some (w8 seed).length) := Lib.hid (by rw [w8_length, HL.out]; exact info29)
  have hb := build140 seed HL.out
  go_enter Tryd.func43, Tryd.ntmps43
  go_upto_region 1 with fail
  have HS : Hid (Blk (w.alloc (.cells (w8 seed).toArray 29)) w.heap.size 29 (w8 seed)) := Lib.hid (Blk.new _ _ _)
  have HW : Hid (Below w.heap.size w (w.alloc (.cells (w8 seed).toArray 29))) := Lib.hid ((Below.refl _ _).alloc (Nat.le_refl _) _)
  generalize (w.alloc (.cells (w8 seed).toArray 29)) = V0 at HS HW ⊢
  have HRG := Lib.hid HS.out.all
  have hv0 : w.heap.size < V0.heap.size := HS.out.lt
  go_upto_region 4 with (first | (refine wpList_load_mid rfl 29 (.tmp 2) rfl w.heap.size 0 rfl (w8 seed) _ HRG.out Tryd.underlying29 rfl HSS.out ?_) | (refine wpList_built rfl 140 #[(0, .tmp 14)] rfl #[(0, .agg (w8 seed).toArray)] (by simp [Act.eval, Act.put]) _ (hb _) ?_))
  clear hb HRG
  have HB0 : Below V0.heap.size V0 (V0.alloc (.cells (ring0 seed).toArray 140)) := (Below.refl _ _).alloc (Nat.le_refl _) _
  have HR : Hid (Blk (V0.alloc (.cells (ring0 seed).toArray 140)) V0.heap.size 140 (ring0 seed)) := Lib.hid (Blk.new _ _ _)
  have HS2 := Lib.hid (HS.out.below HB0 HS.out.lt)
  have HW2 := Lib.hid (HW.out.trans (HB0.mono (Nat.le_of_lt hv0)))
  clear HS HW HB0
  have HS := HS2
  have HW := HW2
  clear HS2 HW2
  generalize (V0.alloc (.cells (ring0 seed).toArray 140)) = V at HR HS HW ⊢
  generalize V0.heap.size = g at HR hv0 ⊢
  have hBz : Below V.heap.size V V.drew := below_drewN (Below.refl _ _) 1
  have HSX0 : Hid (Blk V.drew w.heap.size 29 (w8 seed)) := Lib.hid (HS.out.below hBz HS.out.lt)
  have HRX0 : Hid (Blk V.drew g 140 (ring0 seed)) := Lib.hid (HR.out.below hBz HR.out.lt)
  have HWX0 : Hid (Below w.heap.size w V.drew) := Lib.hid (HW.out.trans (hBz.mono HW.out.size))
  clear hBz
  refine wp_region_held_drew (S := fun w' => Blk w' w.heap.size 29 (w8 seed)) (by kernel_rfl) (HSX0.out) (fun hHeld => ?_)
  generalize V.drew = X0 at hHeld HSX0 HRX0 HWX0 ⊢
  refine wpAnyH_take (i := 0) (v := .agg (w8 seed).toArray) rfl (by kernel_rfl) (by kernel_rfl) (by kernel_rfl) (fun _ _ _ h => h) (yieldsIf_load_mid (by rfl) 29 (.tmp 2) rfl w.heap.size 0 rfl (w8 seed) _ (fun w' h => h.all) Tryd.underlying29 rfl HSS.out) hHeld ?_
  show wpAnyH _ _ _ _ _ _ _ (Act.put _ (some 17) _) _
  simp only [Act.put, List.setIfInBounds_toArray, List.set_cons_zero, List.set_cons_succ]
  refine wpAnyH_take (i := 1) (v := .int .i64 (tall : Int)) rfl (by kernel_rfl) (by kernel_rfl) (by kernel_rfl) (fun _ _ _ h => h) (Or.inl ⟨by rfl, fun w _ => by rfl⟩) hHeld ?_
  show wpAnyH _ _ _ _ _ _ _ (Act.put _ (some 18) _) _
  simp only [Act.put, List.setIfInBounds_toArray, List.set_cons_zero, List.set_cons_succ]
  refine wpAnyH_take (i := 2) (v := .int .i64 ((pw tall : Nat) : Int)) rfl (by kernel_rfl) (by kernel_rfl) (by kernel_rfl) (fun _ _ _ h => h) (Or.inl ⟨by rfl, fun w' h => run_shl_pw tall w' ht⟩) hHeld ?_
  show wpAnyH _ _ _ _ _ _ _ (Act.put _ (some 19) _) _
  simp only [Act.put, List.setIfInBounds_toArray, List.set_cons_zero, List.set_cons_succ]
  refine wpAnyH_ready (rs := [3]) (by kernel_rfl) (by simp) ?_
  refine AllReadyH.cons rfl (fun K hK => ?_) AllReadyH.nil
  refine step_call rfl 77 #[.tmp 17, .tmp 19] #[29, 3] rfl #[.agg (w8 seed).toArray, .int .i64 ((pw tall : Nat) : Int)] (by simp [Act.eval]) (by go_simp) (leaves_any seed (pw tall) X0 (Lib.hid (HT.out.below HWX0.out HT.out.lt)) HL HP (pw_le tall ht)) ?_
  rintro e X1 ⟨g0, rfl, hr, hbase, hB⟩
  have hg0 : w.heap.size ≤ g0 := Nat.le_trans HWX0.out.size hbase
  clear hbase
  have HSX1 : Hid (Blk X1 w.heap.size 29 (w8 seed)) := Lib.hid (HSX0.out.below hB HSX0.out.lt)
  have HRX1 : Hid (Blk X1 g 140 (ring0 seed)) := Lib.hid (HRX0.out.below hB HRX0.out.lt)
  have HWX1 : Hid (Below w.heap.size w X1) := Lib.hid (HWX0.out.trans (hB.mono HWX0.out.size))
  have HQX1 : Hid (Blk X1 g0 36 (w8 (rows (leafN seed) (pw tall)))) := Lib.hid (hr)
  clear HSX0 HRX0 HWX0 hB hr
  refine ⟨_, rfl, hK.out _ _ (HSX1.out) (fun hHeld => ?_)⟩
  clear hK K
  show wpAnyH _ _ _ _ _ _ _ (Act.put _ (some 20) _) _
  simp only [Act.put, List.setIfInBounds_toArray, List.set_cons_zero, List.set_cons_succ]
  refine wpAnyH_take (i := 4) (v := .slice (some ⟨g0, 0, none⟩) (pw tall) (pw tall)) rfl (by kernel_rfl) (by kernel_rfl) (by kernel_rfl) (fun _ _ _ h => h) (Or.inl ⟨by rfl, fun w _ => by rfl⟩) hHeld ?_
  show wpAnyH _ _ _ _ _ _ _ (Act.put _ (some 7) _) _
  simp only [Act.put, List.setIfInBounds_toArray, List.set_cons_zero, List.set_cons_succ]
  refine wpAnyH_done (by kernel_rfl) ?_ _
  clear hHeld
  have hgg : w.heap.size < g := hv0
  have HRO : Hid (RowsAt X1 w.heap.size (.slice none 0 0) seed tall 0) := Lib.hid ⟨[], World.ownsRow_nil _ _ _ _, fun i hi => by omega⟩
  obtain ⟨i0, hi, hz0, hz1, hz2⟩ := info_parts info92f
  have HQ0 : Hid (Blk X1 g0 36 (w8 (rows (levN seed 0) (pw (tall - 0))))) := HQX1
  clear HQX1
  go_wp2_with fail
  go_loopw [22, 7] (fun i t wr => ∃ (k gk : Nat) (v : Value), k ≤ tall ∧ i = .int .i64 k ∧ t = .slice (some ⟨gk, 0, none⟩) (pw (tall - k)) (pw (tall - k)) ∧ w.heap.size ≤ gk ∧ Hid (Blk wr gk 36 (w8 (rows (levN seed k) (pw (tall - k))))) ∧ Hid (Blk wr g 140 (ringC seed v (List.replicate 32 0) (List.replicate 256 false))) ∧ Hid (RowsAt wr w.heap.size v seed tall k) ∧ Hid (Below w.heap.size w wr)) (fun i _ _ => tall - (intOf i).toNat)
  case atStart => exact ⟨0, g0, _, Nat.zero_le _, rfl, rfl, hg0, HQ0, HRX1, HRO, HWX1⟩
  case round =>
    clear HSX1 HQ0 HRX1 HRO HWX1
    obtain ⟨k, gk, v, hk, rfl, rfl, hgk, HQ, HR, HRO, HW⟩ := hrel
    by_cases hlt : k < tall
    · have k1 : (k : Int) < (tall : Int) := by omega
      have hpw : pw (tall - k) = 2 * pw (tall - (k + 1)) := by rw [← pw_succ]; congr 1; omega
      have hpm : pw (tall - (k + 1)) ≤ 128 := by
        have h1 := pw_le (tall - k) (by omega)
        omega
      have HPW := Lib.hid hpw
      have HPM := Lib.hid hpm
      have hg1 : g < wr.heap.size := HR.out.lt
      have hgk1 : gk < wr.heap.size := HQ.out.lt
      obtain ⟨ws, ho, hc⟩ := HRO.out
      have c32 : wr.cell? ⟨g, 32, none⟩ = some v := by rw [HR.out.cell]; exact ringC_rows HL.out
      have hB1 : Below wr.heap.size wr (wr.alloc (.cells #[.slice (some ⟨gk, 0, none⟩) (pw (tall - k)) (pw (tall - k))] 92)) := (Below.refl _ _).alloc (Nat.le_refl _) _
      have hl1 := Blk.new wr 92 [.slice (some ⟨gk, 0, none⟩) (pw (tall - k)) (pw (tall - k))]
      obtain ⟨v2, W2, hrun, hown, hgrow, _, hblk⟩ := run_append_own_at (P := Tryd.prog) (wr.alloc (.cells #[.slice (some ⟨gk, 0, none⟩) (pw (tall - k)) (pw (tall - k))] 92)) w.heap.size 137 0 92 i0 (.slice none 0 0) 1 24 Tryd.underlying137 hi hz0 hz1 hz2 rfl (by decide) v k ws (ho.alloc _) ⟨wr.heap.size, 0, none⟩ 1 1 [.slice (some ⟨gk, 0, none⟩) (pw (tall - k)) (pw (tall - k))] rfl
        (fun j u hu => by rw [Go.WideShapes.add_plain, Nat.zero_add, hl1.cell]; exact hu) (by simp [Value.oneCell']) (by unfold maxLen; omega) (by omega) (by have := HW.out.size; simp; omega)
      obtain ⟨gx, cx, hv2⟩ : ∃ gx cx, v2 = .slice (some ⟨gx, 0, none⟩) (k + 1) cx := by
        rcases hown.2 with ⟨_, h0⟩ | ⟨gx, cx, _, h1, _⟩
        · omega
        · exact ⟨gx, cx, h1⟩
      subst hv2
      have HRUN : Hid (∀ ty, (Builtin.append_ #[137, 137] ty #[v, .slice (some ⟨wr.heap.size, 0, none⟩) 1 1]).run Tryd.prog (wr.alloc (.cells #[.slice (some ⟨gk, 0, none⟩) (pw (tall - k)) (pw (tall - k))] 92)) = .ok (.slice (some ⟨gx, 0, none⟩) (k + 1) cx) W2) := Lib.hid fun ty => hrun
      have hne : ∀ (x : Nat) (t : TypeId) (cs : List Value), Blk wr x t cs → t ≠ 92 → Blk W2 x t cs := fun x t cs hx ht => (hx.alloc _).grown hgrow (by
        intro e
        obtain ⟨cs', hb⟩ := own_block (ho.alloc (.cells #[.slice (some ⟨gk, 0, none⟩) (pw (tall - k)) (pw (tall - k))] 92)) e.symm
        exact Blk.ne_ (hx.alloc _) hb ht rfl)
      have HRq := Lib.hid (hne _ _ _ HR.out (by decide))
      have HQq := Lib.hid (hne _ _ _ HQ.out (by decide))
      have HWq : Hid (Below w.heap.size w W2) := Lib.hid ((HW.out.trans (hB1.mono HW.out.size)).grown hgrow (by have := HW.out.size; simp; omega) (fun q hq => ((ho.alloc (.cells #[.slice (some ⟨gk, 0, none⟩) (pw (tall - k)) (pw (tall - k))] 92)).lt q hq).1))
      have HROq : Hid (RowsAt W2 w.heap.size (.slice (some ⟨gx, 0, none⟩) (k + 1) cx) seed tall (k + 1)) := Lib.hid ⟨ws ++ [.slice (some ⟨gk, 0, none⟩) (pw (tall - k)) (pw (tall - k))], hown, fun i hi => by
        rcases Nat.lt_or_ge i k with h | h
        · obtain ⟨gi, h1, h2, h3⟩ := hc i h
          exact ⟨gi, by rw [List.getElem?_append_left (by have := ho.1; omega)]; exact h1, h2, hne _ _ _ h3 (by decide)⟩
        · obtain rfl : i = k := by omega
          exact ⟨gk, by rw [List.getElem?_append_right (by have := ho.1; omega)]; have := ho.1; simp [this], hgk, HQq.out⟩⟩
      have d32 : W2.cell? ⟨g, 32, none⟩ = some v := by rw [HRq.out.cell]; exact ringC_rows HL.out
      have e32 : W2.frozen? ⟨g, 32, none⟩ = false := HRq.out.frozen 32
      clear hrun hown hgrow hblk hne ho hc hB1 hl1 hpw hpm
      go_upto_region 8 with (at_builtin; refine wpList_append_run_ rfl (.tmp 28) (.tmp 30) 137 137 rfl (.slice (some ⟨gx, 0, none⟩) (k + 1) cx) W2 (fun ty => HRUN.out ty) ?_)
      have hRs := HRq.out.set_ 32 (.slice (some ⟨gx, 0, none⟩) (k + 1) cx)
      rw [ringC_set HL.out] at hRs
      have HR2 := Lib.hid hRs
      have hO : W2.grownBy (W2.setCell ⟨g, 32, none⟩ (.slice (some ⟨gx, 0, none⟩) (k + 1) cx)) (some g) := only_setCell (only_refl _ _) (.inl rfl) _
      have HRO2 := Lib.hid (HROq.out.far hO HRq.out (by decide) (by decide))
      have HQ2 := Lib.hid (HQq.out.grown hO (by intro e; injection e with e; subst e; exact Blk.ne_ HRq.out HQq.out (by decide) rfl))
      have HW2 := Lib.hid (HWq.out.trans (only_up hO (Nat.le_of_lt hgg) HWq.out.size))
      clear hRs hO c32 d32 e32 HRUN HROq HQq HWq HRq
      generalize W2.setCell ⟨g, 32, none⟩ (.slice (some ⟨gx, 0, none⟩) (k + 1) cx) = D at HR2 HRO2 HQ2 HW2 ⊢
      rw [HPW.out]
      rw [HPW.out] at HQ2
      have hcall := above_any (levN seed k) (pw (tall - (k + 1))) gk (2 * pw (tall - (k + 1))) D (Lib.hid (HT.out.below HW2.out HT.out.lt)) (Lib.hid (levN_length seed k)) (Lib.hid (levN_lt seed k)) HQ2 HPM.out
      go_wp2_with fail
      refine hcall.mono ?_
      clear hcall
      rintro e X ⟨gn, rfl, hq, hgn, hB⟩
      have HQ3 : Hid (Blk X gn 36 (w8 (rows (levN seed (k + 1)) (pw (tall - (k + 1)))))) := Lib.hid hq
      have hgn2 : w.heap.size ≤ gn := Nat.le_trans HW2.out.size hgn
      have HR3 := Lib.hid (HR2.out.below hB HR2.out.lt)
      have HRO3 := Lib.hid (HRO2.out.below hB)
      have HW3 := Lib.hid (HW2.out.trans (hB.mono HW2.out.size))
      clear hB hq hgn HR2 HRO2 HW2 HQ2
      go_wp2
      go_roundw
      case rel => exact ⟨k + 1, gn, _, by omega, by go_num, rfl, hgn2, HQ3, HR3, HRO3, HW3⟩
      case measure => simp [intOf]; omega
    · obtain rfl : k = tall := by omega
      have e0 : pw (k - k) = 1 := by rw [Nat.sub_self]; rfl
      rw [e0] at HQ ⊢
      have HQ1 : Hid (Blk wr gk 36 (w8 (rootN seed k))) := Lib.hid (by
        have h := HQ.out
        rw [show rows (levN seed k) 1 = rootN seed k by simp [rows, rootN]] at h
        exact h)
      have HI7 : Hid ((Tryd.prog.info? 36).map (·.size) = some (w8 (rootN seed k)).length) := Lib.hid (by rw [w8_length, rootN_length]; exact info36)
      have HRG := Lib.hid HQ1.out.all
      have HTH : Hid (wr.there g 33 (w8 (rootN seed k)).length) := Lib.hid (HR.out.there _ _ (by rw [ringC_length HL.out (by simp) (by simp), w8_length, rootN_length]; omega))
      go_wp2_with (first | (refine wpList_load_mid rfl 36 (.tmp 39) rfl gk 0 rfl (w8 (rootN seed k)) _ HRG.out Tryd.underlying36 rfl HI7.out ?_) | (refine wpList_put_mid rfl 36 (.tmp 42) (.tmp 40) rfl g 33 (w8 (rootN seed k)) rfl rfl HTH.out HI7.out (w8_one _) ?_))
      have hO : wr.grownBy (wr.setCells g 33 (w8 (rootN seed k))) (some g) := only_cells _ _ _
      have HR2 := Lib.hid (ringC_put HR.out HL.out (by simp) (rootN_length seed k))
      have HRO2 := Lib.hid (HRO.out.far hO HR.out (by decide) (by decide))
      have HW2 := Lib.hid (HW.out.trans (only_up hO (Nat.le_of_lt hgg) HW.out.size))
      generalize wr.setCells g 33 (w8 (rootN seed k)) = D at HR2 HRO2 HW2 ⊢
      go_ret2
      exact ⟨g, v, rfl, ⟨Nat.le_of_lt hgg, HR2.out, HRO2.out, HL.out, HP.out, by simp, ht⟩, HW2.out⟩

end Go.Proofs.YtkonokjhpddbfaaDoor
namespace Go.Proofs.YtkonokjhpddbfaaDoor
open Go.RowKit
set_option linter.unusedVariables false

theorem within_lt (key tall : Nat) : ((key / 2 ^ tall : Nat) = 0) ↔ key < pw tall := by
  unfold pw
  rw [Nat.div_eq_zero_iff]
  have := Nat.pow_pos (n := tall) (show 0 < 2 by omega)
  omega
theorem within_bool (key tall : Nat) (hk : key < 4294967296) : ((key : Int) / 2 ^ min tall 32 == 0) = decide (key < pw tall) := by
  have h1 : (key : Int) / 2 ^ min tall 32 = ((key / 2 ^ min tall 32 : Nat) : Int) := by simp
  have h2 := within_lt key (min tall 32)
  have h3 : key < pw (min tall 32) ↔ key < pw tall := by
    rcases Nat.le_total tall 32 with h | h
    · rw [Nat.min_eq_left h]
    · rw [Nat.min_eq_right h]
      have h4 : pw 32 = 4294967296 := rfl
      have h5 : pw 32 ≤ pw tall := Nat.pow_le_pow_right (by omega) h
      omega
  rw [h1, Bool.eq_iff_iff, beq_iff_eq, decide_eq_true_iff, ← h3, ← h2]
  omega
set_option maxRecDepth 100000 in
theorem within_any (key tall : Nat) (w : World) (hk : key < 4294967296) (ht : tall ≤ 1000) :
    Calls Tryd.prog 81 #[.int .u32 (key : Int), .int .i64 (tall : Int)] w fun e w' => e = .returned (.bool (decide (key < pw tall))) ∧ Below w.heap.size w w' := by
  have h1 : (key : Int) / 2 ^ tall = ((key / 2 ^ tall : Nat) : Int) := by simp
  have h2 : key / 2 ^ tall < 4294967296 := Nat.lt_of_le_of_lt (Nat.div_le_self _ _) hk
  have h3 := within_lt key tall
  go_enter Tryd.func81, Tryd.ntmps81
  go_wp2
  rw [within_bool key tall hk]
  go_ret
  exact ⟨rfl, Below.refl _ _⟩

set_option maxRecDepth 100000 in
theorem tall_any (g : Nat) (seed : List Nat) (tall base : Nat) (tk : List Bool) (v : Value) (w : World) (HR : Hid (RingAt w base g seed tall tk v)) :
    Calls Tryd.prog 46 #[.pointer (some ⟨g, 0, none⟩)] w fun e w' => e = .returned (.int .i64 (tall : Int)) ∧ Below w.heap.size w w' := by
  have c32 : w.cell? ⟨g, 32, none⟩ = some v := by rw [HR.out.blk.cell]; exact ringC_rows HR.out.len
  obtain ⟨A, c, hv⟩ : ∃ A c, v = .slice A tall c := by
    obtain ⟨ws, ho, _⟩ := HR.out.rows
    rcases ho.2 with ⟨h1, h2⟩ | ⟨gr, cap, cur, h1, _⟩
    · exact ⟨none, 0, by rw [h1, h2]⟩
    · exact ⟨_, cap, h1⟩
  rw [hv] at c32
  have ht := HR.out.tall
  have t1 : (tall : Int) ≤ 8 := by omega
  clear hv
  go_enter Tryd.func46, Tryd.ntmps46
  go_wp2
  go_ret
  exact ⟨rfl, below_drewN (Below.refl _ _) 0⟩
def findE (key tall : Nat) : Int := if key < pw tall then 0 else 1
set_option maxRecDepth 100000 in
theorem find_any (g key : Nat) (seed : List Nat) (tall base : Nat) (tk : List Bool) (v : Value) (w : World) (HR : Hid (RingAt w base g seed tall tk v)) (hk : key < 4294967296) :
    Calls Tryd.prog 79 #[.pointer (some ⟨g, 0, none⟩), .int .u32 (key : Int)] w fun e w' => e = .returned (.int .i64 (findE key tall)) ∧ Below w.heap.size w w' := by
  have ht := HR.out.tall
  go_enter Tryd.func79, Tryd.ntmps79
  go_wp2_with fail
  refine (tall_any g seed tall base tk v w HR).mono ?_
  rintro e w1 ⟨rfl, hB1⟩
  have HB1 := Lib.hid hB1
  clear hB1
  go_wp2_with fail
  refine (within_any key tall w1 hk (by omega)).mono ?_
  rintro e w2 ⟨rfl, hB2⟩
  have HB2 := Lib.hid (HB1.out.trans (hB2.mono HB1.out.size))
  clear hB2 HB1
  by_cases h : key < pw tall
  · rw [decide_eq_true h]
    go_wp2
    go_ret
    exact ⟨by rw [findE, if_pos h]; rfl, HB2.out⟩
  · rw [decide_eq_false h]
    go_wp2
    go_ret
    exact ⟨by rw [findE, if_neg h]; rfl, HB2.out⟩
set_option maxRecDepth 100000 in
set_option maxHeartbeats 1000000 in
theorem root_any (g : Nat) (seed : List Nat) (tall base : Nat) (tk : List Bool) (v : Value) (w : World) (HR : Hid (RingAt w base g seed tall tk v)) :
    Calls Tryd.prog 45 #[.pointer (some ⟨g, 0, none⟩)] w fun e w' => e = .returned (.agg (w8 (rootN seed tall)).toArray) ∧ Below w.heap.size w w' := by
  have HI : Hid ((Tryd.prog.info? 36).map (·.size) = some (w8 (rootN seed tall)).length) := Lib.hid (by rw [w8_length, rootN_length]; exact info36)
  have HB := Lib.hid (HR.out.below ((Below.refl _ _).alloc (Nat.le_refl _) (.cells zsum 36)))
  have HRG := Lib.hid (ringC_root HB.out.blk HR.out.len (rootN_length seed tall))
  have HZ : Hid (Blk (w.alloc (.cells zsum 36)) w.heap.size 36 (w8 (List.replicate 32 0))) := Lib.hid (by
    have h := Blk.new w 36 (w8 (List.replicate 32 0))
    rw [zsum_eq] at h
    exact h)
  have HW : Hid (Below w.heap.size w (w.alloc (.cells zsum 36))) := Lib.hid ((Below.refl _ _).alloc (Nat.le_refl _) _)
  have HS6 : Hid ((Tryd.prog.info? 36).map (·.size) = some (w8 (rootN seed tall)).toArray.size) := Lib.hid (by rw [List.size_toArray]; exact HI.out)
  have HZ6 : Hid ((w8 (List.replicate 32 0)).toArray.size = (w8 (rootN seed tall)).toArray.size) := Lib.hid (by rw [List.size_toArray, List.size_toArray, w8_length, w8_length, rootN_length]; simp)
  have HO6 := Lib.hid (all_oneCell_toArray (w8_one (rootN seed tall)))
  unfold zsum at HRG HZ HW
  clear HB
  go_enter Tryd.func45, Tryd.ntmps45
  go_wp2_with (first | (refine wpList_load_mid rfl 36 (.tmp 8) rfl g 33 rfl (w8 (rootN seed tall)) _ HRG.out Tryd.underlying36 rfl HI.out ?_) | (refine wpList_store_row rfl 36 (.tmp 2) (.tmp 9) rfl w.heap.size (w8 (rootN seed tall)).toArray rfl rfl 36 _ HZ.out HS6.out HZ6.out HO6.out ?_))
  exact bodyPost_ret (v := .agg (w8 (rootN seed tall)).toArray) (results_cell_row Tryd.results45 _ _ w.heap.size 36 (w8 (rootN seed tall)).toArray (0, 0) _ rfl (HZ.out.setRow _) Tryd.underlying36 rfl HS6.out) rfl ⟨rfl, below_setRow HW.out (by omega) _⟩
/-- A key was noted: the ring alone has turned. -/
def SpentPost (w : World) (base g : Nat) (seed : List Nat) (tall : Nat) (tk : List Bool) (v : Value) (key : Nat) (w' : World) : Prop := RingAt w' base g seed tall (tk.set key true) v ∧ w.grownBy w' (some g)
end Go.Proofs.YtkonokjhpddbfaaDoor
namespace Go.Proofs.YtkonokjhpddbfaaDoor
open Go.RowKit
set_option linter.unusedVariables false

/-- A signature's cells. -/
def rsg (S : List Nat) (key : Nat) (way : Value) : List Value := w8 S ++ [.int .u32 (key : Int), way]
theorem rsg_length (S : List Nat) (key : Nat) (way : Value) (h : S.length = 1024) : (rsg S key way).length = 1026 := by simp [rsg, w8_length, h]
theorem rsg_one (S : List Nat) (key : Nat) (way : Value) (h : way.oneCell' = true) : ∀ v ∈ rsg S key way, v.oneCell' = true := by
  intro v hv
  rcases List.mem_append.1 hv with h1 | h1
  · exact w8_one S v h1
  · simp at h1
    rcases h1 with rfl | rfl
    · rfl
    · exact h
theorem rsg_key (S : List Nat) (key : Nat) (way : Value) (h : S.length = 1024) : (rsg S key way)[1024]? = some (.int .u32 (key : Int)) := by
  unfold rsg
  rw [List.getElem?_append_right (by rw [w8_length]; omega), w8_length, h]
  rfl
theorem rsg_way (S : List Nat) (key : Nat) (way : Value) (h : S.length = 1024) : (rsg S key way)[1025]? = some way := by
  unfold rsg
  rw [List.getElem?_append_right (by rw [w8_length]; omega), w8_length, h]
  rfl
theorem rsg_sig {w : World} {g : Nat} {t : TypeId} {S : List Nat} {key : Nat} {way : Value} (h : Blk w g t (rsg S key way)) (h1 : S.length = 1024) : w.rangeAt g 0 (w8 S) := by
  have h2 := h.range 0 1024
  unfold rsg at h2
  rw [List.drop_zero, List.take_append_of_le_length (by rw [w8_length]; omega), List.take_of_length_le (by rw [w8_length]; omega)] at h2
  exact h2
/-- A way that may be read. -/
def WayR (w : World) (v : Value) (f : Nat → List Nat) (m : Nat) : Prop :=
  ∃ A c, v = .slice A m c ∧ (m = 0 ∨ ∃ g o, A = some ⟨g, o, none⟩ ∧ g < w.heap.size ∧ ∀ i, i < m → w.rangeAt g (o + i * 32) (w8 (f i)))
theorem WayR.below {w w' : World} {v : Value} {f : Nat → List Nat} {m : Nat} (h : WayR w v f m) (hB : Below w.heap.size w w') : WayR w' v f m := by
  obtain ⟨A, c, hv, h1⟩ := h
  refine ⟨A, c, hv, ?_⟩
  rcases h1 with h1 | ⟨g, o, hA, hg, hc⟩
  · exact .inl h1
  · exact .inr ⟨g, o, hA, Nat.lt_of_lt_of_le hg hB.size, fun i hi j u hu => (hB.cell (p := ⟨g, o + i * 32 + j, none⟩) hg).trans (hc i hi j u hu)⟩
theorem WayR.blk {w : World} {g m c : Nat} (f : Nat → List Nat) (hf : ∀ a, (f a).length = 32) {t : TypeId} (h : Blk w g t (w8 (rows f m))) : WayR w (.slice (some ⟨g, 0, none⟩) m c) f m :=
  ⟨_, _, rfl, .inr ⟨g, 0, rfl, h.lt, fun i hi => Blk.sum_at f hf m i hi h _ (by omega)⟩⟩
theorem WayR.nil (w : World) (f : Nat → List Nat) : WayR w (.slice none 0 0) f 0 := ⟨none, 0, rfl, .inl rfl⟩
theorem WayR.one {w : World} {v : Value} {f : Nat → List Nat} {m : Nat} (h : WayR w v f m) : v.oneCell' = true := by
  obtain ⟨A, c, rfl, _⟩ := h
  rfl
theorem info94 : (Tryd.prog.info? 94).map (·.size) = some 1026 := by kernel_rfl
theorem zc94 : (rsg (List.replicate 1024 0) 0 (.slice none 0 0)).toArray = Tryd.zeroCells94 := by kernel_rfl
theorem built94 (parts : List (Nat × Value)) : Tryd.prog.built 94 parts = Instr.fill (#[(0, 1024), (1024, 1), (1025, 1)][·]?) (w8 (List.replicate 1024 0) ++ ([Value.int .u32 0] ++ [Value.slice none 0 0])).toArray parts := by kernel_rfl
theorem build94 (S : List Nat) (key : Nat) (way : Option Addr × Nat × Nat) (h : S.length = 1024) (w : World) : (Instr.build 94 #[(0, .agg (w8 S).toArray), (1, .int .u32 (key : Int)), (2, .slice way.1 way.2.1 way.2.2)]).run Tryd.prog w = .ok (.agg (rsg S key (.slice way.1 way.2.1 way.2.2)).toArray) w := by
  refine run_build w 94 _ _ ?_
  rw [built94]
  have h1 := fill_part (#[(0, 1024), (1024, 1), (1025, 1)][·]?) [] (w8 (List.replicate 1024 0)) ([Value.int .u32 0] ++ [Value.slice none 0 0]) (w8 S) 0 (.agg (w8 S).toArray) [(1, .int .u32 (key : Int)), (2, .slice way.1 way.2.1 way.2.2)] rfl (by rw [w8_length, h]; rfl) (by rw [w8_length, w8_length, h, List.length_replicate])
  rw [List.nil_append, List.nil_append] at h1
  refine h1.trans ?_
  rw [fill_part (#[(0, 1024), (1024, 1), (1025, 1)][·]?) (w8 S) [Value.int .u32 0] [Value.slice none 0 0] [.int .u32 (key : Int)] 1 (.int .u32 (key : Int)) [(2, .slice way.1 way.2.1 way.2.2)] rfl (by simp [w8_length, h]) rfl]
  have h2 := fill_part (#[(0, 1024), (1024, 1), (1025, 1)][·]?) (w8 S ++ [.int .u32 (key : Int)]) [Value.slice none 0 0] [] [.slice way.1 way.2.1 way.2.2] 2 (.slice way.1 way.2.1 way.2.2) [] rfl (by simp [w8_length, h]) rfl
  try simp only [List.append_nil, List.append_assoc] at h2
  try simp only [List.append_nil, List.append_assoc]
  refine h2.trans ?_
  rw [fill_none]
  rfl
theorem run_build_op {o : Oper} {a : Act} {t : TypeId} {parts : Array (Nat × Operand)} (ho : o.op = .build t parts) {vals : Array (Nat × Value)} (hv : (parts.map fun (i, x) => (i, a.eval x)) = vals) {v : Value} {w : World} (hb : (Instr.build t vals).run Tryd.prog w = .ok v w) :
    (execOp a.eval o).run Tryd.prog w = .ok (.value v) w := by
  unfold execOp
  simp only [ho, hv, Sem.run_bind, hb, Result.andThen_ok, Sem.run_pure]
theorem u32_xor1 (n : Nat) (h : n < 4294967296) : bits .xor .u32 (n : Int) 1 = ((sibN n : Nat) : Int) := by
  have h1 : (n ^^^ 1) / 2 = n / 2 := by rw [Nat.xor_div_two]; simp
  have h2 : (n ^^^ 1) % 2 = (n + 1) % 2 := by
    have h := Nat.xor_mod_two_pow (a := n) (b := 1) (n := 1)
    rcases (show n % 2 = 0 ∨ n % 2 = 1 by omega) with h0 | h0
    · rw [show (2 : Nat) ^ 1 = 2 from rfl, h0] at h
      have h5 : (0 ^^^ 1 % 2 : Nat) = 1 := rfl
      omega
    · rw [show (2 : Nat) ^ 1 = 2 from rfl, h0] at h
      have h5 : (1 ^^^ 1 % 2 : Nat) = 0 := rfl
      omega
  have h3 : n ^^^ 1 = sibN n := by unfold sibN; split <;> omega
  have h4 : n ^^^ 1 < 4294967296 := by rw [h3]; unfold sibN; split <;> omega
  have key : (BitVec.ofInt 32 (n : Int) ^^^ BitVec.ofInt 32 1).toNat = n ^^^ 1 := by
    rw [BitVec.toNat_xor]
    have e1 : (BitVec.ofInt 32 (n : Int)).toNat = n := by rw [BitVec.toNat_ofInt]; omega
    have e2 : (BitVec.ofInt 32 1).toNat = 1 := by decide
    rw [e1, e2]
  show IntKind.u32.wrap ((BitVec.ofInt 32 (n : Int) ^^^ BitVec.ofInt 32 1).toNat : Nat) = _
  rw [key, h3, IntKind.wrap_u32]
  rw [h3] at h4
  omega
theorem RowsAt.open {w : World} {base : Nat} {v : Value} {seed : List Nat} {tall k : Nat} (h : RowsAt w base v seed tall tall) (hk : k < tall) :
    ∃ gr cap gi, v = .slice (some ⟨gr, 0, none⟩) tall cap ∧ tall ≤ cap ∧ cap ≤ 9223372036854775807 ∧ base ≤ gr ∧ base ≤ gi ∧ w.cell? ⟨gr, k, none⟩ = some (.slice (some ⟨gi, 0, none⟩) (pw (tall - k)) (pw (tall - k))) ∧ Blk w gi 36 (w8 (rows (levN seed k) (pw (tall - k)))) := by
  obtain ⟨ws, ho, hc⟩ := h
  obtain ⟨gi, h1, h2, h3⟩ := hc k hk
  rcases ho.2 with ⟨_, h0⟩ | ⟨gr, cap, cur, hv, hb, hg, hn, hm, hs, ht⟩
  · omega
  · refine ⟨gr, cap, gi, hv, hn, by unfold maxLen at hm; exact hm, hb, h2, ?_, h3⟩
    have ho2 := ho
    rw [hv] at ho2
    rw [World.ownsRow.cellAt ho2 k (by rw [Nat.mul_one]; exact hk)]
    exact h1

set_option maxRecDepth 100000 in
set_option maxHeartbeats 2000000 in
theorem signature_any (seed d : List Nat) (tall key base g : Nat) (tk : List Bool) (v : Value) (w : World) (HT : Hid (Tab w)) (HR : Hid (RingAt w base g seed tall tk v)) (HDL : Hid (d.length = 32)) (HDP : Hid (∀ x ∈ d, x < 256)) (hkp : key < pw tall) :
    Calls Tryd.prog 80 #[.pointer (some ⟨g, 0, none⟩), .int .u32 (key : Int), .agg (w8 d).toArray] w fun e w' => ∃ gw, e = .returned (.agg (rsg (signN seed key d) key (.slice (some ⟨gw, 0, none⟩) tall tall)).toArray) ∧ Blk w' gw 36 (w8 (rows (wayN seed key) tall)) ∧ w.heap.size ≤ gw ∧ Below w.heap.size w w' := by
  have htall : tall ≤ 8 := HR.out.tall
  have hk2 : key < 256 := Nat.lt_of_lt_of_le hkp (pw_le tall htall)
  have HSL := Lib.hid HR.out.len
  have HSLh : Hid (seed.length = 32) := HSL
  have HSP := Lib.hid HR.out.lt
  have HSS : Hid ((Tryd.prog.info? 29).map (·.size) = some (w8 seed).length) := Lib.hid (by rw [w8_length, HSL.out]; exact info29)
  have HDS : Hid ((Tryd.prog.info? 36).map (·.size) = some (w8 d).length) := Lib.hid (by rw [w8_length, HDL.out]; exact info36)
  obtain ⟨i0, hi, hz0, hz1, hz2⟩ := info_parts info36f
  have t1 : (tall : Int) ≤ 8 := by omega
  have hgl : g < w.heap.size := HR.out.blk.lt
  go_enter Tryd.func80, Tryd.ntmps80
  go_upto_region 1 with fail
  have HD : Hid (Blk ((w.alloc (.cells (w8 d).toArray 36)).alloc (.cells Tryd.zeroCells94 94)) w.heap.size 36 (w8 d)) := Lib.hid (by
    have h := (Blk.new w 36 (w8 d)).alloc (.cells Tryd.zeroCells94 94)
    exact h)
  have HZ : Hid (Blk ((w.alloc (.cells (w8 d).toArray 36)).alloc (.cells Tryd.zeroCells94 94)) (w.heap.size + 1) 94 (rsg (List.replicate 1024 0) 0 (.slice none 0 0))) := Lib.hid (by
    have h := Blk.new (w.alloc (.cells (w8 d).toArray 36)) 94 (rsg (List.replicate 1024 0) 0 (.slice none 0 0))
    rw [zc94, World.size_alloc] at h
    exact h)
  have HW : Hid (Below w.heap.size w ((w.alloc (.cells (w8 d).toArray 36)).alloc (.cells Tryd.zeroCells94 94))) := Lib.hid (((Below.refl _ _).alloc (Nat.le_refl _) _).alloc (by simp) _)
  generalize ((w.alloc (.cells (w8 d).toArray 36)).alloc (.cells Tryd.zeroCells94 94)) = V at HD HZ HW ⊢
  have HR1 := Lib.hid (HR.out.below (HW.out.mono (Nat.le_refl _)))
  have hv1 : w.heap.size + 1 < V.heap.size := HZ.out.lt
  go_wp2_with fail
  refine (tall_any g seed tall base tk v V HR1).mono ?_
  rintro e V1 ⟨rfl, hB⟩
  have HR2 := Lib.hid (HR1.out.below hB)
  have HD2 := Lib.hid (HD.out.below hB HD.out.lt)
  have HZ2 := Lib.hid (HZ.out.below hB HZ.out.lt)
  have HW2 := Lib.hid (HW.out.trans (hB.mono HW.out.size))
  have hV1 : V.heap.size ≤ V1.heap.size := hB.size
  clear hB HR1 HD HZ HW
  go_wp2_with (at_make; refine wpList_make_full _ rfl (.tmp 10) (.tmp 10) 92 rfl w.heap.size 36 i0 (.agg zsum) 32 Tryd.underlying92 hi hz0 hz1 .i64 .i64 _ _ tall rfl rfl ?c1 ?c2 ?c3 ?c4 ?c5 ?_)
  case c1 => rfl
  case c2 => rfl
  case c3 => rw [hz2]; omega
  case c4 => unfold maxLen; omega
  case c5 => exact HW2.out.size
  intro w1 hown hg
  have hB1 : Below V1.heap.size V1 w1 := (Below.refl _ _).grown hg (Nat.le_refl _) (by simp)
  obtain ⟨hr, hbase⟩ := own_full hown
  rw [made_sums, ← sumsC_zero (wayN seed key) tall] at hr
  have HY := Lib.hid hr
  have HR3 := Lib.hid (HR2.out.below hB1)
  have HD3 := Lib.hid (HD2.out.below hB1 HD2.out.lt)
  have HZ3 := Lib.hid (HZ2.out.below hB1 HZ2.out.lt)
  have HW3 := Lib.hid (HW2.out.trans (hB1.mono HW2.out.size))
  have hgw0 : w.heap.size + 1 < V1.heap.size := by omega
  have HRI : Hid (∀ X : World, Below w1.heap.size w1 X → RingAt X base g seed tall tk v) := Lib.hid fun X hX => HR3.out.below hX
  generalize V1.heap.size = gw at *
  clear hown hg hB1 hr HR2 HD2 HZ2 HW2
  go_wp2_with fail
  refine (tall_any g seed tall base tk v w1 HR3).mono ?_
  rintro e W ⟨rfl, hB⟩
  have HR4 := Lib.hid (HR3.out.below hB)
  have HD4 := Lib.hid (HD3.out.below hB HD3.out.lt)
  have HZ4 := Lib.hid (HZ3.out.below hB HZ3.out.lt)
  have HY4 := Lib.hid (HY.out.below hB HY.out.lt)
  have HW4 := Lib.hid (HW3.out.trans (hB.mono HW3.out.size))
  clear hB HR3 HD3 HZ3 HY HW3 HRI
  have hgw : w.heap.size ≤ gw := by omega
  go_wp2_with fail
  go_loopw [14, 8] (fun i _ wr => ∃ (k : Nat), k ≤ tall ∧ i = .int .i64 k ∧ Hid (Blk wr gw 36 (w8 (sumsC (wayN seed key) tall k))) ∧ Hid (Blk wr w.heap.size 36 (w8 d)) ∧ Hid (Blk wr (w.heap.size + 1) 94 (rsg (List.replicate 1024 0) 0 (.slice none 0 0))) ∧ Hid (Below w.heap.size w wr)) (fun i _ _ => tall - (intOf i).toNat)
  case atStart => exact ⟨0, Nat.zero_le _, rfl, HY4, HD4, HZ4, HW4⟩
  case round =>
    clear HY4 HD4 HZ4 HW4 HR4
    obtain ⟨k, hk0, rfl, Yr, Dr, Zr, Br⟩ := hrel
    have HRr := Lib.hid (HR.out.below Br.out)
    by_cases hlt : k < tall
    · have hk : k ≤ tall := hk0
      have k1 : (k : Int) < (tall : Int) := by omega
      have k2 : (k : Int) ≤ 8 := by omega
      obtain ⟨gr, cap, gi, hv, hcap, hcap2, hbr, hbi, hcell0, hblk0⟩ := HR.out.rows.open hlt
      have hgr0 : gr < w.heap.size := World.block_lt_of_cell? _ _ hcell0
      have hgi0 : gi < w.heap.size := hblk0.lt
      have hcell := (Br.out.cell (p := ⟨gr, k, none⟩) hgr0).trans hcell0
      have hblk := hblk0.below Br.out hgi0
      clear hcell0 hblk0
      subst hv
      have hsib : sibN (key / 2 ^ k) < pw (tall - k) := sibN_lt key tall k hlt hkp
      have hps : pw (tall - k) ≤ 256 := pw_le _ (by omega)
      have hkq : key / 2 ^ k < 256 := Nat.lt_of_le_of_lt (Nat.div_le_self _ _) hk2
      have HI7 : Hid ((Tryd.prog.info? 36).map (·.size) = some (w8 (wayN seed key k)).length) := Lib.hid (by rw [w8_length, wayN_length]; exact info36)
      have hgr : gr < wr.heap.size := World.block_lt_of_cell? _ _ hcell
      have hgr2 : gr ≠ gw := by omega
      have hgi2 : gi ≠ gw := by omega
      have hgg2 : g ≠ gw := by omega
      have Gr := Lib.hid HRr.out.blk
      have Cr := Lib.hid hcell
      have Ir := Lib.hid hblk
      have k3 : ((k : Int)).toNat = k := rfl
      have hshr : True := trivial
      have hxor := u32_xor1 (key / 2 ^ k) (by omega)
      have hq1 : ((sibN (key / 2 ^ k) : Nat) : Int) < ((pw (tall - k) : Nat) : Int) := by omega
      clear HRr hcell hblk
      go_upto_region 5 with fail
      have hBz : Below wr.heap.size wr wr.drew := below_drewN (Below.refl _ _) 1
      have GX0 : Hid (Blk wr.drew g 140 (ringC seed (.slice (some ⟨gr, 0, none⟩) tall cap) (rootN seed tall) tk)) := Lib.hid (Gr.out.below hBz Gr.out.lt)
      have CX0 : Hid (wr.drew.cell? ⟨gr, k, none⟩ = some (.slice (some ⟨gi, 0, none⟩) (pw (tall - k)) (pw (tall - k)))) := Lib.hid ((hBz.cell (p := ⟨gr, k, none⟩) hgr).trans Cr.out)
      have IX0 : Hid (Blk wr.drew gi 36 (w8 (rows (levN seed k) (pw (tall - k))))) := Lib.hid (Ir.out.below hBz Ir.out.lt)
      have YX0 : Hid (Blk wr.drew gw 36 (w8 (sumsC (wayN seed key) tall k))) := Lib.hid (Yr.out.below hBz Yr.out.lt)
      have BX0 : Hid (Below w.heap.size w wr.drew) := Lib.hid (Br.out.trans (hBz.mono Br.out.size))
      have DX0 : Hid (Blk wr.drew w.heap.size 36 (w8 d)) := Lib.hid (Dr.out.below hBz Dr.out.lt)
      have ZX0 : Hid (Blk wr.drew (w.heap.size + 1) 94 (rsg (List.replicate 1024 0) 0 (.slice none 0 0))) := Lib.hid (Zr.out.below hBz Zr.out.lt)
      clear hBz
      refine wp_region_held_drew (S := fun w' => Blk w' g 140 (ringC seed (.slice (some ⟨gr, 0, none⟩) tall cap) (rootN seed tall) tk) ∧ w'.cell? ⟨gr, k, none⟩ = some (.slice (some ⟨gi, 0, none⟩) (pw (tall - k)) (pw (tall - k))) ∧ Blk w' gi 36 (w8 (rows (levN seed k) (pw (tall - k))))) (by kernel_rfl) (⟨GX0.out, CX0.out, IX0.out⟩) (fun hHeld => ?_)
      generalize wr.drew = X0 at hHeld GX0 CX0 IX0 YX0 BX0 DX0 ZX0 ⊢
      refine wpAnyH_take (i := 0) (v := .slice (some ⟨gw, 0, none⟩) tall tall) rfl (by kernel_rfl) (by kernel_rfl) (by kernel_rfl) (fun _ _ _ h => h) (Or.inl ⟨by rfl, fun w _ => by rfl⟩) hHeld ?_
      show wpAnyH _ _ _ _ _ _ _ (Act.put _ (some 17) _) _
      simp only [Act.put, List.setIfInBounds_toArray, List.set_cons_zero, List.set_cons_succ]
      refine wpAnyH_take (i := 1) (v := .int .i64 (k : Int)) rfl (by kernel_rfl) (by kernel_rfl) (by kernel_rfl) (fun _ _ _ h => h) (Or.inl ⟨by rfl, fun w _ => by rfl⟩) hHeld ?_
      show wpAnyH _ _ _ _ _ _ _ (Act.put _ (some 18) _) _
      simp only [Act.put, List.setIfInBounds_toArray, List.set_cons_zero, List.set_cons_succ]
      refine wpAnyH_take (i := 2) (v := .pointer (some ⟨g, 0, none⟩)) rfl (by kernel_rfl) (by kernel_rfl) (by kernel_rfl) (fun _ _ _ h => h) (Or.inl ⟨by rfl, fun w _ => by rfl⟩) hHeld ?_
      show wpAnyH _ _ _ _ _ _ _ (Act.put _ (some 19) _) _
      simp only [Act.put, List.setIfInBounds_toArray, List.set_cons_zero, List.set_cons_succ]
      refine wpAnyH_take (i := 3) (v := .pointer (some ⟨g, 0, none⟩)) rfl (by kernel_rfl) (by kernel_rfl) (by kernel_rfl) (fun _ _ _ h => h) (Or.inl ⟨by rfl, by intro w' h; go_simp⟩) hHeld ?_
      show wpAnyH _ _ _ _ _ _ _ (Act.put _ (some 20) _) _
      simp only [Act.put, List.setIfInBounds_toArray, List.set_cons_zero, List.set_cons_succ]
      refine wpAnyH_take (i := 4) (v := .pointer (some ⟨g, 32, none⟩)) rfl (by kernel_rfl) (by kernel_rfl) (by kernel_rfl) (fun _ _ _ h => h) (Or.inl ⟨by rfl, by intro w' h; go_simp⟩) hHeld ?_
      show wpAnyH _ _ _ _ _ _ _ (Act.put _ (some 21) _) _
      simp only [Act.put, List.setIfInBounds_toArray, List.set_cons_zero, List.set_cons_succ]
      refine wpAnyH_take (i := 5) (v := .slice (some ⟨gr, 0, none⟩) tall cap) rfl (by kernel_rfl) (by kernel_rfl) (by kernel_rfl) (fun _ _ _ h => h) (Or.inl ⟨by rfl, by intro w' h; have q := h.1.cell 32; rw [ringC_rows HSL.out] at q; go_simp⟩) hHeld ?_
      show wpAnyH _ _ _ _ _ _ _ (Act.put _ (some 22) _) _
      simp only [Act.put, List.setIfInBounds_toArray, List.set_cons_zero, List.set_cons_succ]
      refine wpAnyH_take (i := 6) (v := .int .i64 (k : Int)) rfl (by kernel_rfl) (by kernel_rfl) (by kernel_rfl) (fun _ _ _ h => h) (Or.inl ⟨by rfl, fun w _ => by rfl⟩) hHeld ?_
      show wpAnyH _ _ _ _ _ _ _ (Act.put _ (some 23) _) _
      simp only [Act.put, List.setIfInBounds_toArray, List.set_cons_zero, List.set_cons_succ]
      refine wpAnyH_take (i := 7) (v := .pointer (some ⟨gr, k, none⟩)) rfl (by kernel_rfl) (by kernel_rfl) (by kernel_rfl) (fun _ _ _ h => h) (Or.inl ⟨by rfl, by intro w' h; go_simp⟩) hHeld ?_
      show wpAnyH _ _ _ _ _ _ _ (Act.put _ (some 24) _) _
      simp only [Act.put, List.setIfInBounds_toArray, List.set_cons_zero, List.set_cons_succ]
      refine wpAnyH_take (i := 8) (v := .slice (some ⟨gi, 0, none⟩) (pw (tall - k)) (pw (tall - k))) rfl (by kernel_rfl) (by kernel_rfl) (by kernel_rfl) (fun _ _ _ h => h) (Or.inl ⟨by rfl, by intro w' h; have q := h.2.1; go_simp⟩) hHeld ?_
      show wpAnyH _ _ _ _ _ _ _ (Act.put _ (some 25) _) _
      simp only [Act.put, List.setIfInBounds_toArray, List.set_cons_zero, List.set_cons_succ]
      refine wpAnyH_take (i := 9) (v := .int .u32 (key : Int)) rfl (by kernel_rfl) (by kernel_rfl) (by kernel_rfl) (fun _ _ _ h => h) (Or.inl ⟨by rfl, fun w _ => by rfl⟩) hHeld ?_
      show wpAnyH _ _ _ _ _ _ _ (Act.put _ (some 26) _) _
      simp only [Act.put, List.setIfInBounds_toArray, List.set_cons_zero, List.set_cons_succ]
      refine wpAnyH_take (i := 10) (v := .int .i64 (k : Int)) rfl (by kernel_rfl) (by kernel_rfl) (by kernel_rfl) (fun _ _ _ h => h) (Or.inl ⟨by rfl, fun w _ => by rfl⟩) hHeld ?_
      show wpAnyH _ _ _ _ _ _ _ (Act.put _ (some 27) _) _
      simp only [Act.put, List.setIfInBounds_toArray, List.set_cons_zero, List.set_cons_succ]
      refine wpAnyH_take (i := 11) (v := .int .u32 ((key / 2 ^ k : Nat) : Int)) rfl (by kernel_rfl) (by kernel_rfl) (by kernel_rfl) (fun _ _ _ h => h) (Or.inl ⟨by rfl, by intro w' h; go_simp; first | done | exact hshr⟩) hHeld ?_
      show wpAnyH _ _ _ _ _ _ _ (Act.put _ (some 28) _) _
      simp only [Act.put, List.setIfInBounds_toArray, List.set_cons_zero, List.set_cons_succ]
      refine wpAnyH_take (i := 12) (v := .int .u32 ((sibN (key / 2 ^ k) : Nat) : Int)) rfl (by kernel_rfl) (by kernel_rfl) (by kernel_rfl) (fun _ _ _ h => h) (Or.inl ⟨by rfl, by intro w' h; go_simp; first | done | exact hxor⟩) hHeld ?_
      show wpAnyH _ _ _ _ _ _ _ (Act.put _ (some 29) _) _
      simp only [Act.put, List.setIfInBounds_toArray, List.set_cons_zero, List.set_cons_succ]
      refine wpAnyH_take (i := 13) (v := .pointer (some ⟨gi, sibN (key / 2 ^ k) * 32, none⟩)) rfl (by kernel_rfl) (by kernel_rfl) (by kernel_rfl) (fun _ _ _ h => h) (Or.inl ⟨by rfl, by intro w' h; go_simp⟩) hHeld ?_
      show wpAnyH _ _ _ _ _ _ _ (Act.put _ (some 30) _) _
      simp only [Act.put, List.setIfInBounds_toArray, List.set_cons_zero, List.set_cons_succ]
      refine wpAnyH_take (i := 14) (v := .agg (w8 (wayN seed key k)).toArray) rfl (by kernel_rfl) (by kernel_rfl) (by kernel_rfl) (fun _ _ _ h => h) (yieldsIf_load_mid (by rfl) 36 (.tmp 30) rfl gi (sibN (key / 2 ^ k) * 32) rfl (w8 (wayN seed key k)) _ (fun w' h => Blk.sum_at (levN seed k) (levN_length seed k) _ _ hsib h.2.2 _ rfl) Tryd.underlying36 rfl HI7.out) hHeld ?_
      show wpAnyH _ _ _ _ _ _ _ (Act.put _ (some 31) _) _
      simp only [Act.put, List.setIfInBounds_toArray, List.set_cons_zero, List.set_cons_succ]
      refine wpAnyH_take (i := 15) (v := .pointer (some ⟨gw, k * 32, none⟩)) rfl (by kernel_rfl) (by kernel_rfl) (by kernel_rfl) (fun _ _ _ h => h) (Or.inl ⟨by rfl, by intro w' h; go_simp⟩) hHeld ?_
      show wpAnyH _ _ _ _ _ _ _ (Act.put _ (some 32) _) _
      simp only [Act.put, List.setIfInBounds_toArray, List.set_cons_zero, List.set_cons_succ]
      refine wpAnyH_ready (rs := [16]) (by kernel_rfl) (by simp) ?_
      refine AllReadyH.cons rfl (fun K hK => ?_) AllReadyH.nil
      refine step_store_mid rfl 36 (.tmp 32) (.tmp 31) rfl gw (k * 32) (w8 (wayN seed key k)) rfl rfl (YX0.out.there _ _ (by rw [w8_length, w8_length, wayN_length, sumsC_length _ (wayN_length seed key) tall k hk]; omega)) HI7.out (w8_one _) ?_
      have hO : X0.grownBy (X0.setCells gw (k * 32) (w8 (wayN seed key k))) (some gw) := only_cells _ _ _
      have YD := Lib.hid (Blk.put8' (wayN seed key) (wayN_length seed key) tall k hlt YX0.out)
      have GD := Lib.hid (GX0.out.grown hO (fun e => by injection e with e; omega))
      have ID := Lib.hid (IX0.out.grown hO (fun e => by injection e with e; omega))
      have CD : Hid ((X0.setCells gw (k * 32) (w8 (wayN seed key k))).cell? ⟨gr, k, none⟩ = some (.slice (some ⟨gi, 0, none⟩) (pw (tall - k)) (pw (tall - k)))) := Lib.hid ((World.cell?_of_block (a := ⟨gr, k, none⟩) (hO.block gr (World.block_lt_of_cell? _ _ CX0.out) (fun e => by injection e with e; omega))).trans CX0.out)
      have BD : Hid (Below w.heap.size w (X0.setCells gw (k * 32) (w8 (wayN seed key k)))) := Lib.hid (BX0.out.trans (only_up hO hgw BX0.out.size))
      have DD := Lib.hid (DX0.out.grown hO (fun e => by injection e with e; omega))
      have ZD := Lib.hid (ZX0.out.grown hO (fun e => by injection e with e; omega))
      clear hO
      refine hK.out _ _ (⟨GD.out, CD.out, ID.out⟩) (fun hHeld => ?_)
      clear hK K
      show wpAnyH _ _ _ _ _ _ _ (Act.put _ none _) _
      simp only [Act.put]
      refine wpAnyH_done (by kernel_rfl) ?_ _
      clear hHeld
      generalize X0.setCells gw (k * 32) (w8 (wayN seed key k)) = D at YD BD DD ZD ⊢
      clear GD ID CD GX0 CX0 IX0 YX0 BX0 DX0 ZX0
      go_wp2
      go_roundw
      case rel => exact ⟨k + 1, by omega, by go_num, YD, DD, ZD, BD⟩
      case measure => simp [intOf]; omega
    · obtain rfl : k = tall := by omega
      have Gr := Lib.hid HRr.out.blk
      have HS6 : Hid ((Tryd.prog.info? 94).map (·.size) = some (rsg (signN seed key d) key (.slice (some ⟨gw, 0, none⟩) k k)).toArray.size) := Lib.hid (by rw [List.size_toArray, rsg_length _ _ _ (signN_length _ _ _)]; exact info94)
      have HS7 : Hid ((Tryd.prog.info? 94).map (·.size) = some (rsg (signN seed key d) key (.slice (some ⟨gw, 0, none⟩) k k)).length) := Lib.hid (by rw [rsg_length _ _ _ (signN_length _ _ _)]; exact info94)
      have HZ7 : Hid ((rsg (List.replicate 1024 0) 0 (.slice none 0 0)).length = (rsg (signN seed key d) key (.slice (some ⟨gw, 0, none⟩) k k)).length) := Lib.hid (by rw [rsg_length _ _ _ (by simp), rsg_length _ _ _ (signN_length _ _ _)])
      have HO7 := Lib.hid (all_oneCell_toArray (rsg_one (signN seed key d) key (.slice (some ⟨gw, 0, none⟩) k k) rfl))
      rw [sumsC_end] at Yr
      go_upto_region 7 with fail
      have hBz : Below wr.heap.size wr wr.drew := below_drewN (Below.refl _ _) 1
      have GX0 : Hid (Blk wr.drew g 140 (ringC seed v (rootN seed k) tk)) := Lib.hid (Gr.out.below hBz Gr.out.lt)
      have DX0 : Hid (Blk wr.drew w.heap.size 36 (w8 d)) := Lib.hid (Dr.out.below hBz Dr.out.lt)
      have ZX0 : Hid (Blk wr.drew (w.heap.size + 1) 94 (rsg (List.replicate 1024 0) 0 (.slice none 0 0))) := Lib.hid (Zr.out.below hBz Zr.out.lt)
      have YX0 : Hid (Blk wr.drew gw 36 (w8 (rows (wayN seed key) k))) := Lib.hid (Yr.out.below hBz Yr.out.lt)
      have BX0 : Hid (Below w.heap.size w wr.drew) := Lib.hid (Br.out.trans (hBz.mono Br.out.size))
      clear hBz
      refine wp_region_held_drew (S := fun w' => Blk w' g 140 (ringC seed v (rootN seed k) tk) ∧ Blk w' w.heap.size 36 (w8 d)) (by kernel_rfl) (⟨GX0.out, DX0.out⟩) (fun hHeld => ?_)
      generalize wr.drew = X0 at hHeld GX0 DX0 ZX0 YX0 BX0 ⊢
      refine wpAnyH_take (i := 0) (v := .pointer (some ⟨g, 0, none⟩)) rfl (by kernel_rfl) (by kernel_rfl) (by kernel_rfl) (fun _ _ _ h => h) (Or.inl ⟨by rfl, fun w _ => by rfl⟩) hHeld ?_
      show wpAnyH _ _ _ _ _ _ _ (Act.put _ (some 34) _) _
      simp only [Act.put, List.setIfInBounds_toArray, List.set_cons_zero, List.set_cons_succ]
      refine wpAnyH_take (i := 1) (v := .pointer (some ⟨g, 0, none⟩)) rfl (by kernel_rfl) (by kernel_rfl) (by kernel_rfl) (fun _ _ _ h => h) (Or.inl ⟨by rfl, by intro w' h; go_simp⟩) hHeld ?_
      show wpAnyH _ _ _ _ _ _ _ (Act.put _ (some 35) _) _
      simp only [Act.put, List.setIfInBounds_toArray, List.set_cons_zero, List.set_cons_succ]
      refine wpAnyH_take (i := 2) (v := .pointer (some ⟨g, 0, none⟩)) rfl (by kernel_rfl) (by kernel_rfl) (by kernel_rfl) (fun _ _ _ h => h) (Or.inl ⟨by rfl, by intro w' h; go_simp⟩) hHeld ?_
      show wpAnyH _ _ _ _ _ _ _ (Act.put _ (some 36) _) _
      simp only [Act.put, List.setIfInBounds_toArray, List.set_cons_zero, List.set_cons_succ]
      refine wpAnyH_take (i := 3) (v := .agg (w8 seed).toArray) rfl (by kernel_rfl) (by kernel_rfl) (by kernel_rfl) (fun _ _ _ h => h) (yieldsIf_load_mid (by rfl) 29 (.tmp 36) rfl g 0 rfl (w8 seed) _ (fun w' h => ringC_seed h.1 HSL.out) Tryd.underlying29 rfl HSS.out) hHeld ?_
      show wpAnyH _ _ _ _ _ _ _ (Act.put _ (some 37) _) _
      simp only [Act.put, List.setIfInBounds_toArray, List.set_cons_zero, List.set_cons_succ]
      refine wpAnyH_take (i := 4) (v := .int .u32 (key : Int)) rfl (by kernel_rfl) (by kernel_rfl) (by kernel_rfl) (fun _ _ _ h => h) (Or.inl ⟨by rfl, fun w _ => by rfl⟩) hHeld ?_
      show wpAnyH _ _ _ _ _ _ _ (Act.put _ (some 38) _) _
      simp only [Act.put, List.setIfInBounds_toArray, List.set_cons_zero, List.set_cons_succ]
      refine wpAnyH_take (i := 6) (v := .agg (w8 d).toArray) rfl (by kernel_rfl) (by kernel_rfl) (by kernel_rfl) (fun _ _ _ h => h) (yieldsIf_load_mid (by rfl) 36 (.tmp 5) rfl w.heap.size 0 rfl (w8 d) _ (fun w' h => h.2.all) Tryd.underlying36 rfl HDS.out) hHeld ?_
      show wpAnyH _ _ _ _ _ _ _ (Act.put _ (some 40) _) _
      simp only [Act.put, List.setIfInBounds_toArray, List.set_cons_zero, List.set_cons_succ]
      refine wpAnyH_take (i := 8) (v := .int .u32 (key : Int)) rfl (by kernel_rfl) (by kernel_rfl) (by kernel_rfl) (fun _ _ _ h => h) (Or.inl ⟨by rfl, fun w _ => by rfl⟩) hHeld ?_
      show wpAnyH _ _ _ _ _ _ _ (Act.put _ (some 42) _) _
      simp only [Act.put, List.setIfInBounds_toArray, List.set_cons_zero, List.set_cons_succ]
      refine wpAnyH_take (i := 9) (v := .slice (some ⟨gw, 0, none⟩) k k) rfl (by kernel_rfl) (by kernel_rfl) (by kernel_rfl) (fun _ _ _ h => h) (Or.inl ⟨by rfl, fun w _ => by rfl⟩) hHeld ?_
      show wpAnyH _ _ _ _ _ _ _ (Act.put _ (some 43) _) _
      simp only [Act.put, List.setIfInBounds_toArray, List.set_cons_zero, List.set_cons_succ]
      refine wpAnyH_ready (rs := [5]) (by kernel_rfl) (by simp) ?_
      refine AllReadyH.cons rfl (fun K hK => ?_) AllReadyH.nil
      refine step_call rfl 20 #[.tmp 37, .tmp 38] #[29, 38] rfl #[.agg (w8 seed).toArray, .int .u32 (key : Int)] (by simp [Act.eval]) (by go_simp) (lampnew_any seed key X0 HSLh (by omega)) ?_
      rintro e X1 ⟨rfl, hB⟩
      have GX1 : Hid (Blk X1 g 140 (ringC seed v (rootN seed k) tk)) := Lib.hid (GX0.out.below hB GX0.out.lt)
      have DX1 : Hid (Blk X1 w.heap.size 36 (w8 d)) := Lib.hid (DX0.out.below hB DX0.out.lt)
      have ZX1 : Hid (Blk X1 (w.heap.size + 1) 94 (rsg (List.replicate 1024 0) 0 (.slice none 0 0))) := Lib.hid (ZX0.out.below hB ZX0.out.lt)
      have YX1 : Hid (Blk X1 gw 36 (w8 (rows (wayN seed key) k))) := Lib.hid (YX0.out.below hB YX0.out.lt)
      have BX1 : Hid (Below w.heap.size w X1) := Lib.hid (BX0.out.trans (hB.mono BX0.out.size))
      clear GX0 DX0 ZX0 YX0 BX0 hB
      refine ⟨_, rfl, hK.out _ _ (⟨GX1.out, DX1.out⟩) (fun hHeld => ?_)⟩
      clear hK K
      show wpAnyH _ _ _ _ _ _ _ (Act.put _ (some 39) _) _
      simp only [Act.put, List.setIfInBounds_toArray, List.set_cons_zero, List.set_cons_succ]
      refine wpAnyH_ready (rs := [7]) (by kernel_rfl) (by simp) ?_
      refine AllReadyH.cons rfl (fun K hK => ?_) AllReadyH.nil
      refine step_call rfl 25 #[.tmp 39, .tmp 40] #[43, 36] rfl #[.agg (keyC seed key).toArray, .agg (w8 d).toArray] (by simp [Act.eval]) (by go_simp) (sign_any seed key d X1 (Lib.hid (HT.out.below BX1.out HT.out.lt)) HSLh HSP (by omega) HDL HDP) ?_
      rintro e X2 ⟨rfl, hB⟩
      have GX2 : Hid (Blk X2 g 140 (ringC seed v (rootN seed k) tk)) := Lib.hid (GX1.out.below hB GX1.out.lt)
      have DX2 : Hid (Blk X2 w.heap.size 36 (w8 d)) := Lib.hid (DX1.out.below hB DX1.out.lt)
      have ZX2 : Hid (Blk X2 (w.heap.size + 1) 94 (rsg (List.replicate 1024 0) 0 (.slice none 0 0))) := Lib.hid (ZX1.out.below hB ZX1.out.lt)
      have YX2 : Hid (Blk X2 gw 36 (w8 (rows (wayN seed key) k))) := Lib.hid (YX1.out.below hB YX1.out.lt)
      have BX2 : Hid (Below w.heap.size w X2) := Lib.hid (BX1.out.trans (hB.mono BX1.out.size))
      clear GX1 DX1 ZX1 YX1 BX1 hB
      refine ⟨_, rfl, hK.out _ _ (⟨GX2.out, DX2.out⟩) (fun hHeld => ?_)⟩
      clear hK K
      show wpAnyH _ _ _ _ _ _ _ (Act.put _ (some 41) _) _
      simp only [Act.put, List.setIfInBounds_toArray, List.set_cons_zero, List.set_cons_succ]
      refine wpAnyH_take (i := 10) (v := .agg (rsg (signN seed key d) key (.slice (some ⟨gw, 0, none⟩) k k)).toArray) rfl (by kernel_rfl) (by kernel_rfl) (by kernel_rfl) (fun _ _ _ h => h) (Or.inl ⟨by rfl, fun w' h => run_build_op rfl (by simp [Act.eval]) (build94 _ _ (some ⟨gw, 0, none⟩, k, k) (signN_length _ _ _) w')⟩) hHeld ?_
      show wpAnyH _ _ _ _ _ _ _ (Act.put _ (some 44) _) _
      simp only [Act.put, List.setIfInBounds_toArray, List.set_cons_zero, List.set_cons_succ]
      refine wpAnyH_ready (rs := [11]) (by kernel_rfl) (by simp) ?_
      refine AllReadyH.cons rfl (fun K hK => ?_) AllReadyH.nil
      refine Kt.step_store rfl 94 (.tmp 6) (.tmp 44) rfl (w.heap.size + 1) (rsg (signN seed key d) key (.slice (some ⟨gw, 0, none⟩) k k)) rfl rfl 94 _ ZX2.out HS7.out HZ7.out HO7.out ?_
      intro X3 hZ hO
      have hYK : some gw ≠ some (w.heap.size + 1) := fun e => by injection e with e; omega
      have GX3 : Hid (Blk X3 g 140 (ringC seed v (rootN seed k) tk)) := Lib.hid (GX2.out.grown hO (fun e => by injection e with e; omega))
      have DX3 : Hid (Blk X3 w.heap.size 36 (w8 d)) := Lib.hid (DX2.out.grown hO (fun e => by injection e with e; omega))
      have YX3 : Hid (Blk X3 gw 36 (w8 (rows (wayN seed key) k))) := Lib.hid (YX2.out.grown hO hYK)
      have BX3 : Hid (Below w.heap.size w X3) := Lib.hid (BX2.out.trans (only_up hO (by omega) BX2.out.size))
      have QX3 : Hid (Blk X3 (w.heap.size + 1) 94 (rsg (signN seed key d) key (.slice (some ⟨gw, 0, none⟩) k k))) := Lib.hid (hZ)
      clear GX2 DX2 YX2 BX2 hZ hO hYK
      refine hK.out _ _ (⟨GX3.out, DX3.out⟩) (fun hHeld => ?_)
      clear hK K
      show wpAnyH _ _ _ _ _ _ _ (Act.put _ none _) _
      simp only [Act.put]
      refine wpAnyH_done (by kernel_rfl) ?_ _
      clear hHeld
      go_wp2
      exact bodyPost_ret (v := .agg (rsg (signN seed key d) key (.slice (some ⟨gw, 0, none⟩) k k)).toArray) (results_cell_row Tryd.results80 _ _ (w.heap.size + 1) 94 (rsg (signN seed key d) key (.slice (some ⟨gw, 0, none⟩) k k)).toArray (0, 0) _ rfl QX3.out Tryd.underlying94 rfl HS6.out) rfl ⟨gw, rfl, YX3.out, hgw, BX3.out⟩
end Go.Proofs.YtkonokjhpddbfaaDoor
namespace Go.Proofs.YtkonokjhpddbfaaDoor
open Go.RowKit
set_option linter.unusedVariables false

theorem results_ct' {fn : Func} {p u : Tmp} {ty : TypeId} (h : fn.results = #[.cell p ty, .tmp u]) (tmps : Array Value) (w : World) (g t : Nat) (cs : List Value) (d : TypeDesc) (hp : tmps.getD p undef = .pointer (some ⟨g, 0, none⟩)) (hB : Blk w g t cs)
    (hu : Tryd.prog.underlying ty = some d) (hd : d.isRow = true) (hi : (Tryd.prog.info? ty).map (·.size) = some cs.length) :
    (results fn tmps).run Tryd.prog w = .ok (.tuple #[.agg cs.toArray, tmps.getD u undef]) w := by
  rw [results_cell_tmp h, hp]
  simp [asAddr, Result.andThen, run_loadVar_mid w g 0 ty cs d hB.all hu hd hi]
/-- No signature. -/
def zsig : List Value := rsg (List.replicate 1024 0) 0 (.slice none 0 0)
theorem zsig_arr : zsig.toArray = Tryd.zeroCells94 := zc94
theorem zsig_length : zsig.length = 1026 := rsg_length _ _ _ List.length_replicate
theorem zsig_one : ∀ v ∈ zsig, v.oneCell' = true := rsg_one _ _ _ rfl
theorem RingAt.ne0 {w : World} {base g tall : Nat} {seed : List Nat} {tk : List Bool} {v : Value} (h : RingAt w base g seed tall tk v) (hT : Tab w) : g ≠ 0 := by
  rintro rfl
  have h1 := hT.at 0 (by omega)
  rw [h.blk.cell] at h1
  obtain ⟨x, l, hx⟩ : ∃ x l, seed = x :: l := by
    cases hs : seed with
    | nil => have := h.len; rw [hs] at this; cases this
    | cons x l => exact ⟨x, l, rfl⟩
  rw [hx] at h1
  simp [ringC, w8] at h1
theorem grown_fresh {a b c : World} {g x : Nat} (h : a.grownBy b (some g)) (k : b.grownBy c (some x)) (hx : a.heap.size ≤ x) : a.grownBy c (some g) :=
  ⟨k.os.trans h.os, k.tape.trans h.tape, k.output.trans h.output, Nat.le_trans h.size k.size, fun i hi hn => (k.block i (Nat.lt_of_lt_of_le hi h.size) (fun e => by injection e with e; omega)).trans (h.block i hi hn)⟩

set_option maxRecDepth 100000 in
set_option maxHeartbeats 1000000 in
theorem sign_spent (g key : Nat) (seed d : List Nat) (tall base : Nat) (tk : List Bool) (v : Value) (w : World) (HR : Hid (RingAt w base g seed tall tk v)) (h : key < pw tall) (ht : tk.getD key false = true) :
    Calls Tryd.prog 48 #[.pointer (some ⟨g, 0, none⟩), .int .u32 (key : Int), .agg (w8 d).toArray] w fun e w' => e = .returned (.tuple #[.agg zsig.toArray, .int .i64 21]) ∧ Below w.heap.size w w' := by
  have HI : Hid ((Tryd.prog.info? 94).map (·.size) = some zsig.length) := Lib.hid (by rw [zsig_length]; exact info94)
  have HI2 : Hid ((Tryd.prog.info? 94).map (·.size) = some zsig.toArray.size) := Lib.hid (by rw [List.size_toArray]; exact HI.out)
  have HO := Lib.hid (all_oneCell_toArray zsig_one)
  go_enter Tryd.func48, Tryd.ntmps48
  go_upto_region 1 with fail
  have HZ : Hid (Blk ((w.alloc (.cells (w8 d).toArray 36)).alloc (.cells Tryd.zeroCells94 94)) (w.heap.size + 1) 94 zsig) := Lib.hid (by
    have h := Blk.new (w.alloc (.cells (w8 d).toArray 36)) 94 zsig
    rw [zsig_arr, World.size_alloc] at h
    exact h)
  have HW : Hid (Below w.heap.size w ((w.alloc (.cells (w8 d).toArray 36)).alloc (.cells Tryd.zeroCells94 94))) := Lib.hid (((Below.refl _ _).alloc (Nat.le_refl _) _).alloc (by simp) _)
  generalize ((w.alloc (.cells (w8 d).toArray 36)).alloc (.cells Tryd.zeroCells94 94)) = V at HZ HW ⊢
  go_wp2_with fail
  refine (find_any g key seed tall base tk v V (Lib.hid (HR.out.below HW.out)) (by have := Nat.lt_of_lt_of_le h (pw_le tall HR.out.tall); omega)).mono ?_
  rintro e V1 ⟨rfl, hB⟩
  have HZ1 := Lib.hid (HZ.out.below hB HZ.out.lt)
  have HW1 := Lib.hid (HW.out.trans (hB.mono HW.out.size))
  have HR1 := HR.out.below HW1.out
  have h2 : key < 256 := Nat.lt_of_lt_of_le h (pw_le tall HR1.tall)
  have k2 : (key : Int) < 256 := by omega
  have ct : V1.cell? ⟨g, 65 + key, none⟩ = some (.bool true) := by rw [HR1.blk.cell, ← ht]; exact ringC_taken HR1.len (rootN_length _ _) HR1.tk key h2
  clear HR1
  rw [show findE key tall = 0 from if_pos h]
  clear hB HZ HW
  have HZA := HZ1.out.setRow zsig
  go_wp2_with (first | (refine wpList_store_row rfl 94 (.tmp 6) (.tmp 22) rfl (w.heap.size + 1) zsig.toArray rfl (congrArg Value.agg zsig_arr.symm) 94 _ HZ1.out HI2.out rfl HO.out ?_))
  exact bodyPost_ret (results_ct' Tryd.results48 _ _ (w.heap.size + 1) 94 zsig _ rfl HZA Tryd.underlying94 rfl HI.out) rfl ⟨rfl, below_setRow HW1.out (by omega) _⟩

set_option maxRecDepth 100000 in
set_option maxHeartbeats 1000000 in
theorem sign_ok (g key : Nat) (seed d : List Nat) (tall base : Nat) (tk : List Bool) (v : Value) (w : World) (HR : Hid (RingAt w base g seed tall tk v)) (HT : Hid (Tab w)) (HDL : Hid (d.length = 32)) (HDP : Hid (∀ x ∈ d, x < 256)) (h : key < pw tall) (ht : tk.getD key false = false) :
    Calls Tryd.prog 48 #[.pointer (some ⟨g, 0, none⟩), .int .u32 (key : Int), .agg (w8 d).toArray] w fun e w' => ∃ gw, e = .returned (.tuple #[.agg (rsg (signN seed key d) key (.slice (some ⟨gw, 0, none⟩) tall tall)).toArray, .int .i64 0]) ∧ Blk w' gw 36 (w8 (rows (wayN seed key) tall)) ∧ w.heap.size ≤ gw ∧ SpentPost w base g seed tall tk v key w' := by
  have HDS : Hid ((Tryd.prog.info? 36).map (·.size) = some (w8 d).length) := Lib.hid (by rw [w8_length, HDL.out]; exact info36)
  have htl := HR.out.tall
  have hk2 : key < 256 := Nat.lt_of_lt_of_le h (pw_le tall htl)
  have hgl : g < w.heap.size := HR.out.blk.lt
  go_enter Tryd.func48, Tryd.ntmps48
  go_upto_region 1 with fail
  have HD : Hid (Blk ((w.alloc (.cells (w8 d).toArray 36)).alloc (.cells Tryd.zeroCells94 94)) w.heap.size 36 (w8 d)) := Lib.hid ((Blk.new w 36 (w8 d)).alloc _)
  have HZ : Hid (Blk ((w.alloc (.cells (w8 d).toArray 36)).alloc (.cells Tryd.zeroCells94 94)) (w.heap.size + 1) 94 zsig) := Lib.hid (by
    have h := Blk.new (w.alloc (.cells (w8 d).toArray 36)) 94 zsig
    rw [zsig_arr, World.size_alloc] at h
    exact h)
  have HW : Hid (Below w.heap.size w ((w.alloc (.cells (w8 d).toArray 36)).alloc (.cells Tryd.zeroCells94 94))) := Lib.hid (((Below.refl _ _).alloc (Nat.le_refl _) _).alloc (by simp) _)
  generalize ((w.alloc (.cells (w8 d).toArray 36)).alloc (.cells Tryd.zeroCells94 94)) = V at HD HZ HW ⊢
  go_wp2_with fail
  refine (find_any g key seed tall base tk v V (Lib.hid (HR.out.below HW.out)) (by omega)).mono ?_
  rintro e V1 ⟨rfl, hB⟩
  have HD1 := Lib.hid (HD.out.below hB HD.out.lt)
  have HZ1 := Lib.hid (HZ.out.below hB HZ.out.lt)
  have HW1 := Lib.hid (HW.out.trans (hB.mono HW.out.size))
  have HR1 := Lib.hid (HR.out.below HW1.out)
  have k2 : (key : Int) < 256 := by omega
  have ct : V1.cell? ⟨g, 65 + key, none⟩ = some (.bool false) := by rw [HR1.out.blk.cell, ← ht]; exact ringC_taken HR1.out.len (rootN_length _ _) HR1.out.tk key hk2
  have ft : V1.frozen? ⟨g, 65 + key, none⟩ = false := HR1.out.blk.frozen _
  rw [show findE key tall = 0 from if_pos h]
  clear hB HD HZ HW
  have hv1 : w.heap.size + 1 < V1.heap.size := HZ1.out.lt
  go_upto_region 7 with fail
  have hO2 : V1.grownBy (V1.setCell ⟨g, 65 + key, none⟩ (.bool true)) (some g) := only_setCell (only_refl _ _) (.inl rfl) _
  have HR2 := Lib.hid (HR1.out.spend key)
  have HD2 := Lib.hid (HD1.out.grown hO2 (fun e => by injection e with e; omega))
  have HZ2 := Lib.hid (HZ1.out.grown hO2 (fun e => by injection e with e; omega))
  have HG2 : Hid (w.grownBy (V1.setCell ⟨g, 65 + key, none⟩ (.bool true)) (some g)) := Lib.hid ((show w.grownBy V1 (some g) from ⟨HW1.out.os, HW1.out.tape, HW1.out.output, HW1.out.size, fun i hi _ => HW1.out.block i hi⟩).trans hO2)
  have HT1 := HT.out.below HW1.out HT.out.lt
  have HT2 : Hid (Tab (V1.setCell ⟨g, 65 + key, none⟩ (.bool true))) := Lib.hid (HT1.grown hO2 (HR1.out.ne0 HT1))
  clear HT1
  clear hO2 ct ft HR1 HD1 HZ1 HT
  generalize V1.setCell ⟨g, 65 + key, none⟩ (.bool true) = V2 at HR2 HD2 HZ2 HG2 HT2 ⊢
  have hv2 : w.heap.size ≤ V2.heap.size := HG2.out.size
  have hv3 : w.heap.size + 1 < V2.heap.size := HZ2.out.lt
  have HRD := Lib.hid HD2.out.all
  go_wp2_with (first | (refine wpList_load_mid rfl 36 (.tmp 5) rfl w.heap.size 0 rfl (w8 d) _ HRD.out Tryd.underlying36 rfl HDS.out ?_))
  refine (signature_any seed d tall key base g (tk.set key true) v V2 HT2 HR2 HDL HDP h).mono ?_
  rintro e V3 ⟨gw, rfl, hY, hgw, hB⟩
  have HY := Lib.hid hY
  have HZ3 := Lib.hid (HZ2.out.below hB HZ2.out.lt)
  have HO7 := Lib.hid (all_oneCell_toArray (rsg_one (signN seed key d) key (.slice (some ⟨gw, 0, none⟩) tall tall) rfl))
  have HI : Hid ((Tryd.prog.info? 94).map (·.size) = some (rsg (signN seed key d) key (.slice (some ⟨gw, 0, none⟩) tall tall)).length) := Lib.hid (by rw [rsg_length _ _ _ (signN_length _ _ _)]; exact info94)
  have HI2 : Hid ((Tryd.prog.info? 94).map (·.size) = some (rsg (signN seed key d) key (.slice (some ⟨gw, 0, none⟩) tall tall)).toArray.size) := Lib.hid (by rw [List.size_toArray]; exact HI.out)
  have HZL : Hid (zsig.toArray.size = (rsg (signN seed key d) key (.slice (some ⟨gw, 0, none⟩) tall tall)).toArray.size) := Lib.hid (by rw [List.size_toArray, List.size_toArray, zsig_length, rsg_length _ _ _ (signN_length _ _ _)])
  have hO : V3.grownBy (V3.setRow (w.heap.size + 1) (rsg (signN seed key d) key (.slice (some ⟨gw, 0, none⟩) tall tall)).toArray) (some (w.heap.size + 1)) := only_setRow (only_refl _ _) _
  have HYF := Lib.hid (hY.grown hO (fun e => by injection e with e; omega))
  have HZF := HZ3.out.setRow (rsg (signN seed key d) key (.slice (some ⟨gw, 0, none⟩) tall tall))
  go_wp2_with (first | (refine wpList_store_row rfl 94 (.tmp 6) (.tmp 31) rfl (w.heap.size + 1) (rsg (signN seed key d) key (.slice (some ⟨gw, 0, none⟩) tall tall)).toArray rfl rfl 94 _ HZ3.out HI2.out HZL.out HO7.out ?_))
  exact bodyPost_ret (results_ct' Tryd.results48 _ _ (w.heap.size + 1) 94 (rsg (signN seed key d) key (.slice (some ⟨gw, 0, none⟩) tall tall)) _ rfl HZF Tryd.underlying94 rfl HI.out) rfl ⟨gw, rfl, HYF.out, by omega, (HR2.out.below hB).other hO HZ3.out (by decide) (by decide) (by decide), grown_fresh (HG2.out.trans ⟨hB.os, hB.tape, hB.output, hB.size, fun i hi _ => hB.block i hi⟩) hO (by omega)⟩

end Go.Proofs.YtkonokjhpddbfaaDoor
