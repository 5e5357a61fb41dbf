/-
  The statements' things (Item, 36 cells), as numbers and bytes; what lay (function 16) answers: a thing's bytes behind an Out's.
-/
import Derived.Test.YtneacogenjlhgaaRefNum
import Derived.Test.YtneacogenjlhgaaOnesLib
namespace Go.Proofs.Ytneacogenjlhgaa
open Go.RowKit
set_option linter.unusedVariables false

structure It where
  K : Int
  N : Int
  D : List Int
  A : Option Addr
  n : Nat
  c : Nat
  M : Int
  B : List Int
instance : Inhabited It := ⟨⟨0, 0, [], none, 0, 0, 0, []⟩⟩

/-- Its cells. -/
def It.cells (x : It) : List Value := .int .i64 x.K :: .int .u64 x.N :: (byt x.D ++ [.slice x.A x.n x.c, .int .i64 x.M])

structure It.Ok (x : It) (w : World) : Prop where
  d : x.D.length = 32
  n0 : 0 ≤ x.N
  n1 : x.N ≤ 18446744073709551615
  b : x.B.length = x.n
  s : Src w x.A x.c x.B

theorem It.Ok.below {x : It} {w w' : World} (h : x.Ok w) (hB : Below w.heap.size w w') : x.Ok w' := ⟨h.d, h.n0, h.n1, h.b, h.s.below hB⟩

theorem It.size (x : It) (h : x.D.length = 32) : x.cells.length = 36 := by simp [It.cells, byt, h]

/-- The bytes that it is laid as. -/
def It.lays (x : It) : List Int := if x.K = 0 then [x.N % 256] else if x.K = 1 then be4 (x.N % 4294967296) else if x.K = 2 then be8 x.N else if x.K = 3 then x.D else if x.K = 4 then be4 x.n ++ x.B else []

/-- A block that holds a thing. -/
structure Held (W : World) (g : Nat) (x : It) : Prop where
  k : W.cell? ⟨g, 0, none⟩ = some (.int .i64 x.K)
  n : W.cell? ⟨g, 1, none⟩ = some (.int .u64 x.N)
  d : W.rangeAt g 2 (byt x.D)
  p : W.cell? ⟨g, 34, none⟩ = some (.slice x.A x.n x.c)

theorem Held.new (w : World) (x : It) (h : x.D.length = 32) : Held (w.alloc (.cells x.cells.toArray 31)) w.heap.size x := by
  have c : ∀ i, (w.alloc (.cells x.cells.toArray 31)).cell? ⟨w.heap.size, i, none⟩ = x.cells[i]? := fun i => by
    rw [World.cell?_alloc_at _ _ _ _ rfl]
    simp
  have hb : (byt x.D).length = 32 := by simp [byt, h]
  refine ⟨by rw [c]; rfl, by rw [c]; rfl, fun j v hv => ?_, ?_⟩
  · rw [c]
    have hj : j < (byt x.D).length := by
      rcases Nat.lt_or_ge j (byt x.D).length with h | h
      · exact h
      · rw [List.getElem?_eq_none h] at hv; cases hv
    show (.int .i64 x.K :: .int .u64 x.N :: (byt x.D ++ [.slice x.A x.n x.c, .int .i64 x.M]) : List Value)[2 + j]? = _
    rw [show 2 + j = j + 1 + 1 by omega, List.getElem?_cons_succ, List.getElem?_cons_succ, List.getElem?_append_left hj]
    exact hv
  · rw [c]
    show (.int .i64 x.K :: .int .u64 x.N :: (byt x.D ++ [.slice x.A x.n x.c, .int .i64 x.M]) : List Value)[32 + 1 + 1]? = _
    rw [List.getElem?_cons_succ, List.getElem?_cons_succ, List.getElem?_append_right (by omega), hb]
    rfl

theorem Laid.after {w W : World} {base : Nat} {v : Value} {l : List Int} {e : Ending} {w' : World} (hB : Below w.heap.size w W) (h : Laid W base v l e w') : Laid w base v l e w' := by
  obtain ⟨v', rfl, hO, hg, hL⟩ := h
  exact Laid.mk hB hO hg hL

/-- A slice of one sum is laid, in a plain region. -/
theorem wpList_build {w : World} {ops : Array Oper} {rest : List Oper} {o : Oper} {a : Act} {Q : Exit → Act → World → Prop} (hgd : o.guard = none) (s : Nat) (x : List Int) (ho : o.op = .buildSlice 53 1 #[(0, .tmp s)]) (ha : a.eval (.tmp s) = .agg (byt x).toArray) (hx : (byt x).length = 32)
    (h : wpList Try.prog ops Q rest (a.put o.dst (.slice (some ⟨w.heap.size, 0, none⟩) 1 1)) (w.alloc (.cells (byt x).toArray 42))) : wpList Try.prog ops Q (o :: rest) a w := by
  refine wpList_plain hgd fun K hK => ?_
  have hb := build_sum x hx w
  have e : (execOp a.eval o).run Try.prog w = .ok (.value (.slice (some ⟨w.heap.size, 0, none⟩) 1 1)) (w.alloc (.cells (byt x).toArray 42)) := by
    unfold execOp
    simp only [ho, List.map_toArray, List.map_cons, List.map_nil, ha, Sem.run_bind, hb, Result.andThen_ok, Sem.run_pure]
  unfold Oper.wp
  rw [e]
  exact hK _ _ h

theorem be8s_single (x : Int) : be8s [x] = be8 x := by simp [be8s]
theorem be4s_single (x : Int) : be4s [x] = be4 x := by simp [be4s]

set_option maxRecDepth 100000 in
set_option maxHeartbeats 2000000 in
theorem lay_any (v : Value) (x : It) (base : Nat) (xs : List Int) (w : World) (hO : Own w base v xs) (hx : x.Ok w) (hn : x.n ≤ 4096) (hl : xs.length ≤ 1000000) (hbase : base ≤ w.heap.size) :
    Calls Try.prog 16 #[v, .agg x.cells.toArray] w (Laid w base v (xs ++ x.lays)) := by
  have HX := Lib.hid hx
  have HH := Lib.hid (Held.new w x hx.d)
  have HB := Lib.hid ((Below.refl w.heap.size w).alloc (Nat.le_refl _) (.cells x.cells.toArray 31))
  have HO := Lib.hid (World.ownsRow.alloc hO (.cells x.cells.toArray 31))
  have HO0 := Lib.hid hO
  have hbl : (byt x.D).length = 32 := by simp [byt, hx.d]
  have HBS : Hid ((Try.prog.info? 29).map (·.size) = some (byt x.D).length) := Lib.hid (by rw [hbl]; exact info29)
  have HBL := Lib.hid hbl
  have hk := HH.out.k
  have hn0 := HH.out.n
  have hp := HH.out.p
  have b0 := hx.n0
  have b1 := hx.n1
  clear hO hx hbl
  generalize hC : x.cells.toArray = C at *
  clear hC
  have hsz : (w.alloc (.cells C 31)).heap.size = w.heap.size + 1 := by simp
  have HSZ := Lib.hid hsz
  clear hsz
  by_cases h0 : x.K = 0
  · have hy : x.lays = [x.N % 256] := by simp [It.lays, h0]
    rw [hy]
    rw [h0] at hk
    go_enter Try.func16, Try.ntmps16
    go_wp2_with fail
    have h5 := one_any v _ 1 base xs [x.N % 256] _ (World.ownsRow.alloc HO.out (.cells #[.int .u8 (x.N % 256)] 5)) (Src.one (w.alloc (.cells C 31)) (x.N % 256)) (by simp; omega) (by simp; omega)
    rw [show ([x.N % 256] : List Int).length = 1 from rfl, HSZ.out] at h5
    ((with_reducible refine h5.mono ?_))
    clear h5
    intro e w' h
    have HF := Lib.hid (Laid.after (HB.out.alloc (by simp) (.cells #[.int .u8 (x.N % 256)] 5)) h)
    obtain ⟨v', rfl, _⟩ := h
    go_wp2
    go_ret
    exact HF.out
  by_cases h1 : x.K = 1
  · have hy : x.lays = be4 (x.N % 4294967296) := by simp [It.lays, h1]
    rw [hy]
    rw [h1] at hk
    clear h0
    go_enter Try.func16, Try.ntmps16
    go_wp2_with fail
    have h5 := four_any v _ 1 base xs [x.N % 4294967296] _ (World.ownsRow.alloc HO.out (.cells #[.int .u32 (x.N % 4294967296)] 39)) (Rd.lit .u32 39 (w.alloc (.cells C 31)) #[.int .u32 (x.N % 4294967296)] [x.N % 4294967296] rfl) (by simp; omega) (by simp; omega) (by simp; omega)
    rw [show ([x.N % 4294967296] : List Int).length = 1 from rfl, HSZ.out, be4s_single] at h5
    ((with_reducible refine h5.mono ?_))
    clear h5
    intro e w' h
    have HF := Lib.hid (Laid.after (HB.out.alloc (by simp) (.cells #[.int .u32 (x.N % 4294967296)] 39)) h)
    obtain ⟨v', rfl, _⟩ := h
    go_wp2
    go_ret
    exact HF.out
  by_cases h2 : x.K = 2
  · have hy : x.lays = be8 x.N := by simp [It.lays, h2]
    rw [hy]
    rw [h2] at hk
    clear h0 h1
    go_enter Try.func16, Try.ntmps16
    go_wp2_with fail
    have h5 := eight_any v _ 1 base xs [x.N] _ (World.ownsRow.alloc HO.out (.cells #[.int .u64 x.N] 28)) (Rd.lit .u64 28 (w.alloc (.cells C 31)) #[.int .u64 x.N] [x.N] rfl) (by simp; omega) (by simp; omega) (by simp; omega)
    rw [show ([x.N] : List Int).length = 1 from rfl, HSZ.out, be8s_single] at h5
    ((with_reducible refine h5.mono ?_))
    clear h5
    intro e w' h
    have HF := Lib.hid (Laid.after (HB.out.alloc (by simp) (.cells #[.int .u64 x.N] 28)) h)
    obtain ⟨v', rfl, _⟩ := h
    go_wp2
    go_ret
    exact HF.out
  by_cases h3 : x.K = 3
  · have hy : x.lays = x.D := by simp [It.lays, h3]
    rw [hy]
    rw [h3] at hk
    clear h0 h1 h2
    have HBK := Lib.hid (heap_alloc_last (w.alloc (.cells C 31)) (.cells (byt x.D).toArray 42))
    rw [HSZ.out] at HBK
    go_enter Try.func16, Try.ntmps16
    go_wp2_with (first | (refine wpList_load_mid rfl 29 (.tmp 33) rfl w.heap.size 2 rfl (byt x.D) _ HH.out.d Try.underlying29 rfl HBS.out ?_) | (refine wpList_build rfl 34 x.D rfl rfl HBL.out ?_))
    have h5 := outsum_one v (w.heap.size + 1) base xs x.D _ (World.ownsRow.alloc HO.out (.cells (byt x.D).toArray 42)) HBK.out HX.out.d hl (by simp; omega)
    ((with_reducible refine h5.mono ?_))
    clear h5
    intro e w' h
    have HF := Lib.hid (Laid.after (HB.out.alloc (by simp) (.cells (byt x.D).toArray 42)) h)
    obtain ⟨v', rfl, _⟩ := h
    go_wp2
    go_ret
    exact HF.out
  by_cases h4 : x.K = 4
  · have hy : x.lays = be4 x.n ++ x.B := by simp [It.lays, h4]
    rw [hy]
    rw [h4] at hk
    clear h0 h1 h2 h3
    go_enter Try.func16, Try.ntmps16
    go_wp2_with fail
    have h5 := blob_any v x.A (w.heap.size + 1) x.c base x.n xs x.B _ (World.ownsRow.alloc HO.out (.cells #[.slice x.A x.n x.c] 26)) (by simp) (by rw [World.cell?_alloc_at _ _ _ _ (by simp)]; rfl) HX.out.b.symm (HX.out.s.below (HB.out.alloc (by simp) (.cells #[.slice x.A x.n x.c] 26))) (by have := HX.out.b; omega) (by have := HX.out.b; omega) (by simp; omega)
    rw [HX.out.b] at h5
    ((with_reducible refine h5.mono ?_))
    clear h5
    intro e w' h
    have HF := Lib.hid (Laid.after (HB.out.alloc (by simp) (.cells #[.slice x.A x.n x.c] 26)) h)
    obtain ⟨v', rfl, _⟩ := h
    go_wp2
    go_ret
    exact HF.out
  · have hy : x.lays = [] := by simp [It.lays, h0, h1, h2, h3, h4]
    rw [hy, List.append_nil]
    have HF : Hid (Laid w base v xs (.returned v) (w.alloc (.cells C 31))) := Lib.hid ⟨v, rfl, HO.out, Below.grownBy HB.out _, .inl rfl⟩
    have h0' : (x.K == 0) = false := by simp [h0]
    have h1' : (x.K == 1) = false := by simp [h1]
    have h2' : (x.K == 2) = false := by simp [h2]
    have h3' : (x.K == 3) = false := by simp [h3]
    have h4' : (x.K == 4) = false := by simp [h4]
    go_enter Try.func16, Try.ntmps16
    go_wp2
    go_ret
    exact HF.out
end Go.Proofs.Ytneacogenjlhgaa
