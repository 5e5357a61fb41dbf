/-
  Rows of payments of one's own; states as the program's and as the document's; a state alike; the first one.
-/
import Derived.Test.YtbdjlnejlkiijaaDoorRRRDeG
namespace Go.Proofs.YtbdjlnejlkiijaaDoorRRR
open Go.RowKit
set_option linter.unusedVariables false

def cflat (l : List Cnd) : List Value := l.flatMap Cnd.cells
theorem cflat_cons (c : Cnd) (r : List Cnd) : cflat (c :: r) = c.cells ++ cflat r := by simp [cflat]
theorem cflat_length (l : List Cnd) (h : ∀ c ∈ l, c.Ok) : (cflat l).length = l.length * 36 := by
  induction l with
  | nil => rfl
  | cons c r ih =>
    rw [cflat_cons, List.length_append, (h c (by simp)).len, ih (fun d hd => h d (by simp [hd])), List.length_cons]
    omega
theorem cflat_one (l : List Cnd) : ∀ u ∈ cflat l, u.oneCell' = true := by
  intro u hu
  obtain ⟨c, _, hc⟩ := List.mem_flatMap.1 hu
  exact c.one u hc
theorem cflat_snoc (l : List Cnd) (k : Nat) (x : Cnd) (hk : k < l.length) (hx : l.getD k cnd0 = x) : cflat (l.take k) ++ x.cells = cflat (l.take (k + 1)) := by
  have e : l[k] = x := by rw [← hx]; simp [List.getD, hk]
  rw [List.take_succ_eq_append_getElem hk, e]
  simp [cflat]
theorem cflat_at (l : List Cnd) (h : ∀ c ∈ l, c.Ok) : ∀ i, i < l.length → ∀ j u, (l.getD i cnd0).cells[j]? = some u → (cflat l)[i * 36 + j]? = some u := by
  induction l with
  | nil => intro i hi; simp at hi
  | cons c r ih =>
    intro i hi j u hu
    have hl := (h c (by simp)).len
    rw [cflat_cons]
    cases i with
    | zero =>
      have hu2 : c.cells[j]? = some u := by simpa using hu
      have hj : j < 36 := by
        have := (List.getElem?_eq_some_iff.1 hu2).1
        rw [hl] at this
        exact this
      rw [Nat.zero_mul, Nat.zero_add, List.getElem?_append_left (by rw [hl]; exact hj)]
      exact hu2
    | succ i =>
      have h3 := ih (fun d hd => h d (by simp [hd])) i (by simpa using hi) j u (by simpa using hu)
      rw [List.getElem?_append_right (by rw [hl]; omega), hl, show (i + 1) * 36 + j - 36 = i * 36 + j by omega]
      exact h3
theorem cflat_get (l : List Cnd) (h : ∀ c ∈ l, c.Ok) : ∀ j u, (cflat l)[j]? = some u → j / 36 < l.length ∧ (l.getD (j / 36) cnd0).cells[j % 36]? = some u := by
  induction l with
  | nil => intro j u h; simp [cflat] at h
  | cons c r ih =>
    intro j u hu
    have hl := (h c (by simp)).len
    rw [cflat_cons] at hu
    by_cases hj : j < 36
    · rw [List.getElem?_append_left (by rw [hl]; exact hj)] at hu
      rw [show j / 36 = 0 by omega, show j % 36 = j by omega]
      exact ⟨by simp, by simpa using hu⟩
    · rw [List.getElem?_append_right (by rw [hl]; omega), hl] at hu
      obtain ⟨h1, h2⟩ := ih (fun d hd => h d (by simp [hd])) (j - 36) u hu
      rw [show j / 36 = (j - 36) / 36 + 1 by omega, show j % 36 = (j - 36) % 36 by omega]
      exact ⟨by simp; omega, by simpa using h2⟩
theorem CRow.cells {w : World} {ad : Addr} {l : List Cnd} (h : CRow w (some ad) l) : ∀ j u, (cflat l)[j]? = some u → w.cell? (ad.add j) = some u := by
  intro j u hu
  obtain ⟨h1, h2⟩ := cflat_get l h.ok j u hu
  rcases h.at_ with h0 | ⟨b, off, he, _, hc⟩
  · subst h0; simp at h1
  · injection he with he
    subst he
    rw [Go.WideShapes.add_plain, ← hc (j / 36) h1 (j % 36) u h2]
    congr 2; omega
theorem CRow.of_own {w : World} {base e n c : Nat} {a : Option Addr} {l : List Cnd} (h : w.ownsRow base e 36 (.slice a n c) l.length (cflat l)) (hok : ∀ c ∈ l, c.Ok) : CRow w a l := by
  refine ⟨?_, hok⟩
  have hfl := cflat_length l hok
  rcases h.2 with ⟨h1, h0⟩ | ⟨g, cap, cur, h1, _, hg, _⟩
  · exact .inl (List.eq_nil_of_length_eq_zero h0)
  · injection h1 with h1 h2 h3
    subst h1
    subst h2
    refine .inr ⟨g, 0, rfl, ?_, fun i hi j u hu => ?_⟩
    · rcases Nat.lt_or_ge g w.heap.size with h2 | h2
      · exact h2
      · rw [Array.getElem?_eq_none h2] at hg; cases hg
    · have hj : j < 36 := by
        have := (List.getElem?_eq_some_iff.1 hu).1
        rw [(hok _ (getD_mem hi)).len] at this
        exact this
      have h5 := cflat_at l hok i hi j u hu
      have h7 := (List.getElem?_eq_some_iff.1 h5).1
      have h6 := h.cellAt (i * 36 + j) (by rw [hfl] at h7; omega)
      rw [Nat.zero_add, h6]
      exact h5
theorem own_nil {w : World} {base e s n m c : Nat} {a : Option Addr} {xs : List Value} (h : w.ownsRow base e s (.slice a n c) m xs) : a = none → m = 0 ∧ c = 0 := by
  intro ha
  subst ha
  rcases h.2 with ⟨h1, h2⟩ | ⟨g, cap, cur, h1, _⟩
  · injection h1 with _ _ h3
    exact ⟨h2, h3⟩
  · injection h1 with h1
    cases h1
theorem own_slice {w : World} {base e s m : Nat} {v : Value} {xs : List Value} (h : w.ownsRow base e s v m xs) : ∃ a c, v = .slice a m c := by
  rcases h.2 with ⟨rfl, h0⟩ | ⟨g, c, cur, rfl, _⟩
  · exact ⟨none, 0, by rw [h0]⟩
  · exact ⟨_, c, rfl⟩
theorem own_keep {w w' : World} {base : Nat} {e : TypeId} {size n : Nat} {v : Value} {xs : List Value} (h : w.ownsRow base e size v n xs) (hB : Below w.heap.size w w') : w'.ownsRow base e size v n xs := by
  refine ⟨h.1, ?_⟩
  rcases h.2 with h1 | ⟨g, cap, cur, hv, hb, hg, rest⟩
  · exact .inl h1
  · have hlt : g < w.heap.size := by
      rcases Nat.lt_or_ge g w.heap.size with h2 | h2
      · exact h2
      · rw [Array.getElem?_eq_none h2] at hg; cases hg
    exact .inr ⟨g, cap, cur, hv, hb, (hB.block g hlt).trans hg, rest⟩
theorem ownBlock_ne {w : World} {base : Nat} {e : TypeId} {size n : Nat} {v : Value} {xs : List Value} (h : w.ownsRow base e size v n xs) {g : Nat} (hg : g < base) : some g ≠ v.ownBlock := by
  intro e
  have := (h.lt g e.symm).1
  omega
theorem own_mono {w : World} {base base' : Nat} {e : TypeId} {size n : Nat} {v : Value} {xs : List Value} (h : w.ownsRow base e size v n xs) (hb : base' ≤ base) : w.ownsRow base' e size v n xs := ⟨h.1, h.2.imp_right fun ⟨g, cap, cur, a, b, r⟩ => ⟨g, cap, cur, a, Nat.le_trans hb b, r⟩⟩
theorem zinfo60 : (Tryd.prog.info? 47).map (fun i => (i.zero, i.size, i.bytes)) = some (some (.agg cz), 36, 64) := by kernel_rfl
theorem zinfo53 : (Tryd.prog.info? 30).map (fun i => (i.zero, i.size, i.bytes)) = some (some (.agg cz), 36, 64) := by kernel_rfl
theorem info31 : (Tryd.prog.info? 40).map (·.size) = some 7 := by kernel_rfl
theorem info27 : (Tryd.prog.info? 27).map (·.size) = some 7 := by kernel_rfl
section
variable {P : Program} {ops : Array Oper} {o : Oper} {a : Act} {w : World} {K : Act → World → Prop} {Q : Exit → Act → World → Prop} {E : Prop}
/-- A slice stored into one cell of a block that is known whole. -/
theorem step_cell (hw : Region.wanted o (yielded ops a.tmps) = true) (t : TypeId) (d s : Operand) (ho : o.op = .store t d s) (g i : Nat) (hd : a.eval d = .pointer (some ⟨g, i, none⟩)) (v : Value) (hs : a.eval s = v)
    (tb : TypeId) (cs : List Value) (hB : Blk w g tb cs) (hr : (Instr.storeAt t (.pointer (some ⟨g, i, none⟩)) v).run P w = .ok () (w.setCell ⟨g, i, none⟩ v))
    (h : ∀ Y, Blk Y g tb (cs.set i v) → w.grownBy Y (some g) → K (a.put o.dst undef) Y) :
    if Region.wanted o (yielded ops a.tmps) = true then Oper.wp P o a w K Q else E := by
  rw [if_pos hw]
  unfold Oper.wp execOp
  simp only [ho, hd, hs, Sem.run_bind, hr, Result.andThen_ok, Sem.run_pure]
  exact h _ (hB.set_ i v) (only_setCell (p := ⟨g, i, none⟩) (only_refl w _) (.inl rfl) _)
theorem step_ld (hw : Region.wanted o (yielded ops a.tmps) = true) (t : TypeId) (x : Operand) (ho : o.op = .load t x) (g i : Nat) (hx : a.eval x = .pointer (some ⟨g, i, none⟩)) (v : Value) (hr : (Instr.loadAt t (.pointer (some ⟨g, i, none⟩))).run P w = .ok v w) (h : K (a.put o.dst v) w) :
    if Region.wanted o (yielded ops a.tmps) = true then Oper.wp P o a w K Q else E :=
  step_val hw v _ (by unfold execOp; simp only [ho, hx, Sem.run_bind, hr, Result.andThen_ok, Sem.run_pure]) h
theorem wpList_append_run_ {rest : List Oper} (hgd : o.guard = none) (s x : Operand) (t t2 : TypeId) (ho : o.op = .call { callee := .builtin .append, args := #[s, x], argTypes := #[t, t2] }) (v : Value) (W : World)
    (hb : ∀ ty, (Builtin.append_ #[t, t2] ty #[a.eval s, a.eval x]).run P w = .ok v W) (h : wpList P ops Q rest (a.put o.dst v) W) : wpList P ops Q (o :: rest) a w := by
  refine wpList_plain hgd fun K hK => ?_
  have hrun := hb o.type
  unfold Oper.wp
  simp [execOp, ho, resolve, invoke, builtin, hrun, Result.andThen]
  exact hK _ _ h
end
theorem run_load_slice (t : TypeId) (ht : t = 38 ∨ t = 25) (w : World) (g i : Nat) (a : Option Addr) (n c : Nat) (tb : TypeId) (cs : List Value) (hB : Blk w g tb cs) (v : Value) (hv : v = .slice a n c) (hi : cs[i]? = some v) : (Instr.loadAt t (.pointer (some ⟨g, i, none⟩))).run Tryd.prog w = .ok v w := by
  subst hv
  have c0 := hB.cell i
  rw [hi] at c0
  rcases ht with rfl | rfl <;> go_simp
theorem run_store_slice (t : TypeId) (ht : t = 38 ∨ t = 25) (w : World) (g i : Nat) (a : Option Addr) (n c : Nat) (tb : TypeId) (cs : List Value) (hB : Blk w g tb cs) (hi : i < cs.length) (v : Value) (hv : v = .slice a n c) : (Instr.storeAt t (.pointer (some ⟨g, i, none⟩)) v).run Tryd.prog w = .ok () (w.setCell ⟨g, i, none⟩ v) := by
  subst hv
  have c0 := hB.cell i
  have c1 := hB.frozen i
  rw [List.getElem?_eq_getElem hi] at c0
  rcases ht with rfl | rfl <;> go_simp

theorem lay29 (c : Cnd) (hok : c.Ok) (X : World) : (Instr.buildSlice 38 1 #[(0, .agg c.cells.toArray)]).run Tryd.prog X = .ok (.slice (some ⟨X.heap.size, 0, none⟩) 1 1) (X.alloc (.cells c.cells.toArray 47)) := by
  obtain ⟨id, side, amt, h, ex⟩ := c
  have hl : h.length = 32 := hok.h
  match h, hl with
  | [a0, a1, a2, a3, a4, a5, a6, a7, a8, a9, b0, b1, b2, b3, b4, b5, b6, b7, b8, b9, c0, c1, c2, c3, c4, c5, c6, c7, c8, c9, d0, d1], _ =>
    show (Instr.buildSlice 38 1 _).run Tryd.prog X = _
    kernel_rfl

theorem lay25 (c : Cnd) (hok : c.Ok) (X : World) : (Instr.buildSlice 25 1 #[(0, .agg c.cells.toArray)]).run Tryd.prog X = .ok (.slice (some ⟨X.heap.size, 0, none⟩) 1 1) (X.alloc (.cells c.cells.toArray 30)) := by
  obtain ⟨id, side, amt, h, ex⟩ := c
  have hl : h.length = 32 := hok.h
  match h, hl with
  | [a0, a1, a2, a3, a4, a5, a6, a7, a8, a9, b0, b1, b2, b3, b4, b5, b6, b7, b8, b9, c0, c1, c2, c3, c4, c5, c6, c7, c8, c9, d0, d1], _ =>
    show (Instr.buildSlice 25 1 _).run Tryd.prog X = _
    kernel_rfl

set_option maxRecDepth 100000 in
set_option maxHeartbeats 4000000 in
theorem to_any (ch rd m0 m1 t0 t1 : Int) (a : Option Addr) (n cap : Nat) (cs : List Cnd) (w : World) (hC : CRow w a cs) (hl : cs.length = n) (hn : n ≤ 1000) :
    Calls Tryd.prog 8 #[.agg #[.int .u32 ch, .int .u64 rd, .int .u64 m0, .int .u64 m1, .int .u64 t0, .int .u64 t1, .slice a n cap]] w fun e w' => ∃ a' c', e = .returned (.agg #[.int .u32 ch, .int .u64 rd, .int .u64 m0, .int .u64 m1, .int .u64 t0, .int .u64 t1, .slice a' n c']) ∧ w'.ownsRow w.heap.size 47 36 (.slice a' n c') n (cflat cs) ∧ Below w.heap.size w w' := by
  have HC := Lib.hid hC
  have HL := Lib.hid hl
  clear hC hl
  go_enter Tryd.func8, Tryd.ntmps8
  go_upto_region 1 with fail
  have B0 : Hid (Below w.heap.size w ((w.alloc (.cells #[.int .u32 ch, .int .u64 rd, .int .u64 m0, .int .u64 m1, .int .u64 t0, .int .u64 t1, .slice a n cap] 27)).alloc (.cells #[.int .u32 0, .int .u64 0, .int .u64 0, .int .u64 0, .int .u64 0, .int .u64 0, .slice none 0 0] 40))) := Lib.hid (((Below.refl _ _).alloc (Nat.le_refl _) _).alloc (by simp) _)
  have A0 : Hid (Blk ((w.alloc (.cells #[.int .u32 ch, .int .u64 rd, .int .u64 m0, .int .u64 m1, .int .u64 t0, .int .u64 t1, .slice a n cap] 27)).alloc (.cells #[.int .u32 0, .int .u64 0, .int .u64 0, .int .u64 0, .int .u64 0, .int .u64 0, .slice none 0 0] 40)) w.heap.size 27 [.int .u32 ch, .int .u64 rd, .int .u64 m0, .int .u64 m1, .int .u64 t0, .int .u64 t1, .slice a n cap]) := Lib.hid ((Blk.mk_ rfl).alloc _)
  have R0 : Hid (Blk ((w.alloc (.cells #[.int .u32 ch, .int .u64 rd, .int .u64 m0, .int .u64 m1, .int .u64 t0, .int .u64 t1, .slice a n cap] 27)).alloc (.cells #[.int .u32 0, .int .u64 0, .int .u64 0, .int .u64 0, .int .u64 0, .int .u64 0, .slice none 0 0] 40)) (w.heap.size + 1) 40 [.int .u32 0, .int .u64 0, .int .u64 0, .int .u64 0, .int .u64 0, .int .u64 0, .slice none 0 0]) := Lib.hid (Blk.mk_ (by simp))
  generalize ((w.alloc (.cells #[.int .u32 ch, .int .u64 rd, .int .u64 m0, .int .u64 m1, .int .u64 t0, .int .u64 t1, .slice a n cap] 27)).alloc (.cells #[.int .u32 0, .int .u64 0, .int .u64 0, .int .u64 0, .int .u64 0, .int .u64 0, .slice none 0 0] 40)) = V at B0 A0 R0 ⊢
  obtain ⟨gR, hgR⟩ : ∃ g, w.heap.size + 1 = g := ⟨_, rfl⟩
  obtain ⟨gA, hgA⟩ : ∃ g, w.heap.size = g := ⟨_, rfl⟩
  have HGR : Hid (w.heap.size ≤ gR) := Lib.hid (by omega)
  rw [hgR] at R0 ⊢
  rw [hgA] at A0 ⊢
  clear hgR hgA
  have k0 := A0.out.cell 0
  have k1 := A0.out.cell 1
  have k2 := A0.out.cell 2
  have k3 := A0.out.cell 3
  have k4 := A0.out.cell 4
  have k5 := A0.out.cell 5
  have k6 := A0.out.cell 6
  simp only [List.getElem?_cons_zero, List.getElem?_cons_succ] at k0 k1 k2 k3 k4 k5 k6
  have HLA := heap_alloc_last V (.cells #[.int .u32 0, .int .u64 0, .int .u64 0, .int .u64 0, .int .u64 0, .int .u64 0, .slice none 0 0] 40)
  have hz1 : (Tryd.prog.info? 40).map (·.size) = some (#[.int .u32 ch, .int .u64 rd, .int .u64 m0, .int .u64 m1, .int .u64 t0, .int .u64 t1, .slice none 0 0] : Array Value).size := info31
  go_upto_region 2 with (first | (refine wpList_store_row rfl 40 (.tmp 3) (.tmp 14) rfl V.heap.size #[.int .u32 ch, .int .u64 rd, .int .u64 m0, .int .u64 m1, .int .u64 t0, .int .u64 t1, .slice none 0 0] rfl rfl 40 _ HLA hz1 rfl rfl ?_; rw [World.setRow_alloc_new]))
  have hB : Below V.heap.size V (V.alloc (.cells #[.int .u32 ch, .int .u64 rd, .int .u64 m0, .int .u64 m1, .int .u64 t0, .int .u64 t1, .slice none 0 0] 40)) := (Below.refl _ _).alloc (Nat.le_refl _) _
  have B1 := Lib.hid (B0.out.trans (hB.mono B0.out.size))
  have A1 := Lib.hid (A0.out.below hB A0.out.lt)
  have R1 := Lib.hid (R0.out.below hB R0.out.lt)
  have O1 : Hid (Blk (V.alloc (.cells #[.int .u32 ch, .int .u64 rd, .int .u64 m0, .int .u64 m1, .int .u64 t0, .int .u64 t1, .slice none 0 0] 40)) V.heap.size 40 [.int .u32 ch, .int .u64 rd, .int .u64 m0, .int .u64 m1, .int .u64 t0, .int .u64 t1, .slice none 0 0]) := Lib.hid (Blk.new V 40 [.int .u32 ch, .int .u64 rd, .int .u64 m0, .int .u64 m1, .int .u64 t0, .int .u64 t1, .slice none 0 0])
  have HRO : Hid (gR < V.heap.size) := Lib.hid R0.out.lt
  have HGO : Hid (w.heap.size ≤ V.heap.size) := Lib.hid B0.out.size
  clear hB B0 A0 R0 HLA k0 k1 k2 k3 k4 k5 k6 hz1
  generalize V.alloc (.cells #[.int .u32 ch, .int .u64 rd, .int .u64 m0, .int .u64 m1, .int .u64 t0, .int .u64 t1, .slice none 0 0] 40) = W at B1 A1 R1 O1 ⊢
  generalize V.heap.size = gO at O1 HRO HGO ⊢
  have k6 := A1.out.cell 6
  simp only [List.getElem?_cons_zero, List.getElem?_cons_succ] at k6
  go_wp2
  clear k6 A1
  have HBS : Hid (w.heap.size ≤ W.heap.size) := Lib.hid B1.out.size
  have HOB : Hid (gO < W.heap.size) := Lib.hid O1.out.lt
  go_loopw [5, 18] (fun _ i wr => ∃ (k : Nat) (tv : Value), k ≤ n ∧ i = .int .i64 k ∧ Hid (Blk wr gR 40 [.int .u32 0, .int .u64 0, .int .u64 0, .int .u64 0, .int .u64 0, .int .u64 0, .slice none 0 0]) ∧ Hid (Blk wr gO 40 [.int .u32 ch, .int .u64 rd, .int .u64 m0, .int .u64 m1, .int .u64 t0, .int .u64 t1, tv]) ∧ Hid (wr.ownsRow W.heap.size 47 36 tv k (cflat (cs.take k))) ∧ Hid (Below w.heap.size w wr) ∧ Hid (W.heap.size ≤ wr.heap.size)) (fun _ i _ => n - (intOf i).toNat)
  case atStart => exact ⟨0, .slice none 0 0, Nat.zero_le _, rfl, R1, O1, Lib.hid ⟨rfl, .inl ⟨rfl, rfl⟩⟩, B1, Lib.hid (Nat.le_refl _)⟩
  case round =>
    clear R1 O1 B1
    obtain ⟨k, tv, hk, rfl, R0, O0, OW, HB, HZ⟩ := hrel
    by_cases hlt : k < n
    · have hk' : k < cs.length := by rw [HL.out]; exact hlt
      obtain ⟨b, o, c, rfl, hb, hc, hr, hok⟩ := HC.out.get hk'
      have RG := range_below hr HB.out hb
      have HOK := Lib.hid hok
      have HF := Lib.hid (cflat_snoc cs k c hk' hc)
      clear hc hr hb hk'
      have hz1 : (Tryd.prog.info? 30).map (·.size) = some c.cells.toArray.size := by rw [hok.size]; exact info53
      have hz2 : (Tryd.prog.info? 30).map (·.size) = some c.cells.length := by rw [hok.len]; exact info53
      have hz3 : (#[.int .u64 0, .int .i64 0, .int .u64 0, .int .u8 0, .int .u8 0, .int .u8 0, .int .u8 0, .int .u8 0, .int .u8 0, .int .u8 0, .int .u8 0, .int .u8 0, .int .u8 0, .int .u8 0, .int .u8 0, .int .u8 0, .int .u8 0, .int .u8 0, .int .u8 0, .int .u8 0, .int .u8 0, .int .u8 0, .int .u8 0, .int .u8 0, .int .u8 0, .int .u8 0, .int .u8 0, .int .u8 0, .int .u8 0, .int .u8 0, .int .u8 0, .int .u8 0, .int .u8 0, .int .u8 0, .int .u8 0, .int .u64 0] : Array Value).size = c.cells.toArray.size := by rw [hok.size]; rfl
      have hco := c.all_one
      have HLA := heap_alloc_last wr (.cells #[.int .u64 0, .int .i64 0, .int .u64 0, .int .u8 0, .int .u8 0, .int .u8 0, .int .u8 0, .int .u8 0, .int .u8 0, .int .u8 0, .int .u8 0, .int .u8 0, .int .u8 0, .int .u8 0, .int .u8 0, .int .u8 0, .int .u8 0, .int .u8 0, .int .u8 0, .int .u8 0, .int .u8 0, .int .u8 0, .int .u8 0, .int .u8 0, .int .u8 0, .int .u8 0, .int .u8 0, .int .u8 0, .int .u8 0, .int .u8 0, .int .u8 0, .int .u8 0, .int .u8 0, .int .u8 0, .int .u8 0, .int .u64 0] 30)
      go_upto_region 5 with (first | (refine wpList_load_mid rfl 30 (.tmp 20) rfl b (o + k * 36) rfl c.cells _ RG Tryd.underlying30 rfl hz2 ?_) | (refine wpList_store_row rfl 30 (.tmp 5) (.tmp 21) rfl wr.heap.size c.cells.toArray rfl rfl 30 _ HLA hz1 hz3 hco ?_; rw [World.setRow_alloc_new]) | fail)
      have hD := Blk.new wr 30 c.cells
      clear hz1 hz2 hz3 hco HLA
      have hB : Below wr.heap.size wr (wr.alloc (.cells c.cells.toArray 30)) := (Below.refl _ _).alloc (Nat.le_refl _) _
      have BB : Hid (Below w.heap.size w (wr.alloc (.cells c.cells.toArray 30))) := Lib.hid (HB.out.trans (hB.mono HB.out.size))
      have R := Lib.hid (R0.out.below hB R0.out.lt)
      have O := Lib.hid (O0.out.below hB O0.out.lt)
      have D := Lib.hid hD
      have OWN := Lib.hid (own_keep OW.out hB)
      have Z := Lib.hid (Nat.le_trans HZ.out hB.size)
      clear RG hD hB R0 HB HZ hok
      generalize wr.alloc (.cells c.cells.toArray 30) = V at BB R O D OWN Z ⊢
      have HGC : Hid (∀ q, tv.ownBlock = some q → q < wr.heap.size) := Lib.hid fun q hq => (OW.out.lt q hq).2
      have HCO : Hid (gO < wr.heap.size) := Lib.hid O0.out.lt
      clear OW O0
      generalize wr.heap.size = gc at D HGC HCO ⊢
      have hzc : (Tryd.prog.info? 30).map (·.size) = some c.cells.length := by rw [HOK.out.len]; exact info53
      obtain ⟨i0, hi, hz0, hz1, hz2⟩ := info_parts zinfo60
      have hBz : Below V.heap.size V V.drew := below_drewN (Below.refl _ _) 1
      have BBX0 : Hid (Below w.heap.size w V.drew) := Lib.hid (BB.out.trans (hBz.mono BB.out.size))
      have RX0 : Hid (Blk V.drew gR 40 [.int .u32 0, .int .u64 0, .int .u64 0, .int .u64 0, .int .u64 0, .int .u64 0, .slice none 0 0]) := Lib.hid (R.out.below hBz R.out.lt)
      have OX0 : Hid (Blk V.drew gO 40 [.int .u32 ch, .int .u64 rd, .int .u64 m0, .int .u64 m1, .int .u64 t0, .int .u64 t1, tv]) := Lib.hid (O.out.below hBz O.out.lt)
      have DX0 : Hid (Blk V.drew gc 30 c.cells) := Lib.hid (D.out.below hBz D.out.lt)
      have OWNX0 : Hid (V.drew.ownsRow W.heap.size 47 36 tv k (cflat (cs.take k))) := Lib.hid (own_keep OWN.out hBz)
      have ZX0 : Hid (W.heap.size ≤ V.drew.heap.size) := Lib.hid (Nat.le_trans Z.out hBz.size)
      clear hBz
      refine wp_region_held_drew (S := fun w' => Blk w' gc 30 c.cells) (by kernel_rfl) (DX0.out) (fun hHeld => ?_)
      generalize V.drew = X0 at hHeld BBX0 RX0 OX0 DX0 OWNX0 ZX0 ⊢
      refine wpAnyH_take (i := 0) (v := .pointer (some ⟨gO, 6, none⟩)) rfl (by kernel_rfl) (by kernel_rfl) (by kernel_rfl) (fun _ _ _ h => h) (Or.inl ⟨by rfl, by intro w' h; go_simp⟩) hHeld ?_
      show wpAnyH _ _ _ _ _ _ _ (Act.put _ (some 22) _) _
      simp only [Act.put, List.setIfInBounds_toArray, List.set_cons_zero, List.set_cons_succ]
      refine wpAnyH_take (i := 2) (v := .agg c.cells.toArray) rfl (by kernel_rfl) (by kernel_rfl) (by kernel_rfl) (fun _ _ _ h => h) (yieldsIf_load_mid (by rfl) 30 (.tmp 5) rfl gc 0 rfl c.cells _ (fun w h => Blk.all h) Tryd.underlying30 rfl hzc) hHeld ?_
      show wpAnyH _ _ _ _ _ _ _ (Act.put _ (some 24) _) _
      simp only [Act.put, List.setIfInBounds_toArray, List.set_cons_zero, List.set_cons_succ]
      refine wpAnyH_ready (rs := [1, 3]) (by kernel_rfl) (by simp) ?_
      refine AllReadyH.cons rfl (fun K hK => ?_) (AllReadyH.cons rfl (fun K hK => ?_) AllReadyH.nil)
      · obtain ⟨a1, c1, htv⟩ := own_slice OWNX0.out
        refine step_ld rfl 38 (.tmp 22) rfl gO 6 rfl tv (run_load_slice 38 (by decide) X0 gO 6 a1 _ c1 40 _ OX0.out tv htv rfl) ?_
        clear htv
        refine hK.out _ _ (DX0.out) (fun hHeld => ?_)
        clear hK K
        show wpAnyH _ _ _ _ _ _ _ (Act.put _ (some 23) _) _
        simp only [Act.put, List.setIfInBounds_toArray, List.set_cons_zero, List.set_cons_succ]
        refine wpAnyH_ready (rs := [3]) (by kernel_rfl) (by simp) ?_
        refine AllReadyH.cons rfl (fun K hK => ?_) AllReadyH.nil
        refine step_call rfl 30 #[.tmp 24] #[30] rfl #[.agg c.cells.toArray] (by simp [Act.eval]) (by go_simp) (cto_any c X0 HOK.out) ?_
        rintro e X2 ⟨rfl, hB⟩
        have BBX2 : Hid (Below w.heap.size w X2) := Lib.hid (BBX0.out.trans (hB.mono BBX0.out.size))
        have RX2 : Hid (Blk X2 gR 40 [.int .u32 0, .int .u64 0, .int .u64 0, .int .u64 0, .int .u64 0, .int .u64 0, .slice none 0 0]) := Lib.hid (RX0.out.below hB RX0.out.lt)
        have OX2 : Hid (Blk X2 gO 40 [.int .u32 ch, .int .u64 rd, .int .u64 m0, .int .u64 m1, .int .u64 t0, .int .u64 t1, tv]) := Lib.hid (OX0.out.below hB OX0.out.lt)
        have DX2 : Hid (Blk X2 gc 30 c.cells) := Lib.hid (DX0.out.below hB DX0.out.lt)
        have OWNX2 : Hid (X2.ownsRow W.heap.size 47 36 tv k (cflat (cs.take k))) := Lib.hid (own_keep OWNX0.out hB)
        have ZX2 : Hid (W.heap.size ≤ X2.heap.size) := Lib.hid (Nat.le_trans ZX0.out hB.size)
        clear BBX0 RX0 OX0 DX0 OWNX0 ZX0 hB
        refine ⟨_, rfl, hK.out _ _ (DX2.out) (fun hHeld => ?_)⟩
        clear hK K
        show wpAnyH _ _ _ _ _ _ _ (Act.put _ (some 25) _) _
        simp only [Act.put, List.setIfInBounds_toArray, List.set_cons_zero, List.set_cons_succ]
        refine wpAnyH_ready (rs := [4]) (by kernel_rfl) (by simp) ?_
        refine AllReadyH.cons rfl (fun K hK => ?_) AllReadyH.nil
        refine step_lay rfl 38 1 #[(0, .tmp 25)] rfl #[(0, .agg c.cells.toArray)] (by simp [Act.eval]) _ _ (lay29 c HOK.out X2) ?_
        have hB : Below X2.heap.size X2 (X2.alloc (.cells c.cells.toArray 47)) := (Below.refl _ _).alloc (Nat.le_refl _) _
        have hL := Blk.new X2 47 c.cells
        generalize X2.alloc (.cells c.cells.toArray 47) = X3 at hB hL ⊢
        obtain ⟨gl, hgl⟩ : ∃ g, X2.heap.size = g := ⟨_, rfl⟩
        rw [hgl] at hL ⊢
        clear hgl
        have BBX3 : Hid (Below w.heap.size w X3) := Lib.hid (BBX2.out.trans (hB.mono BBX2.out.size))
        have RX3 : Hid (Blk X3 gR 40 [.int .u32 0, .int .u64 0, .int .u64 0, .int .u64 0, .int .u64 0, .int .u64 0, .slice none 0 0]) := Lib.hid (RX2.out.below hB RX2.out.lt)
        have OX3 : Hid (Blk X3 gO 40 [.int .u32 ch, .int .u64 rd, .int .u64 m0, .int .u64 m1, .int .u64 t0, .int .u64 t1, tv]) := Lib.hid (OX2.out.below hB OX2.out.lt)
        have DX3 : Hid (Blk X3 gc 30 c.cells) := Lib.hid (DX2.out.below hB DX2.out.lt)
        have OWNX3 : Hid (X3.ownsRow W.heap.size 47 36 tv k (cflat (cs.take k))) := Lib.hid (own_keep OWNX2.out hB)
        have ZX3 : Hid (W.heap.size ≤ X3.heap.size) := Lib.hid (Nat.le_trans ZX2.out hB.size)
        have LX3 : Hid (Blk X3 gl 47 c.cells) := Lib.hid (hL)
        clear BBX2 RX2 OX2 DX2 OWNX2 ZX2 hB hL
        refine hK.out _ _ (DX3.out) (fun hHeld => ?_)
        clear hK K
        show wpAnyH _ _ _ _ _ _ _ (Act.put _ (some 26) _) _
        simp only [Act.put, List.setIfInBounds_toArray, List.set_cons_zero, List.set_cons_succ]
        refine wpAnyH_ready (rs := [5]) (by kernel_rfl) (by simp) ?_
        refine AllReadyH.cons rfl (fun K hK => ?_) AllReadyH.nil
        refine step_own rfl (.tmp 23) (.tmp 26) 38 rfl W.heap.size 47 i0 (.agg cz) 36 64 Tryd.underlying38 hi hz0 hz1 hz2 rfl (by decide) tv k _ rfl OWNX3.out ⟨gl, 0, none⟩ 1 1 c.cells rfl (by rw [HOK.out.len]) (news_of LX3.out) c.one (by unfold maxLen; omega) (by omega) ZX3.out ?_
        intro tv2 X4 hown hO _ _
        have hRO := ownBlock_ne OWNX3.out (show gR < W.heap.size by have := HOB.out; have := HRO.out; omega)
        have hOO := ownBlock_ne OWNX3.out HOB.out
        have hDO : some gc ≠ tv.ownBlock := fun e => by have := HGC.out _ e.symm; omega
        have hKW : ∀ q, tv.ownBlock = some q → w.heap.size ≤ q := fun q hq => Nat.le_trans HBS.out (OWNX3.out.lt q hq).1
        have BBX4 : Hid (Below w.heap.size w X4) := Lib.hid (BBX3.out.grown hO BBX3.out.size hKW)
        have RX4 : Hid (Blk X4 gR 40 [.int .u32 0, .int .u64 0, .int .u64 0, .int .u64 0, .int .u64 0, .int .u64 0, .slice none 0 0]) := Lib.hid (RX3.out.grown hO hRO)
        have OX4 : Hid (Blk X4 gO 40 [.int .u32 ch, .int .u64 rd, .int .u64 m0, .int .u64 m1, .int .u64 t0, .int .u64 t1, tv]) := Lib.hid (OX3.out.grown hO hOO)
        have DX4 : Hid (Blk X4 gc 30 c.cells) := Lib.hid (DX3.out.grown hO hDO)
        have ZX4 : Hid (W.heap.size ≤ X4.heap.size) := Lib.hid (Nat.le_trans ZX3.out hO.size)
        have OWNX4 : Hid (X4.ownsRow W.heap.size 47 36 tv2 (k + 1) (cflat (cs.take (k + 1)))) := Lib.hid (HF.out ▸ hown)
        clear BBX3 RX3 OX3 DX3 ZX3 hO hown hRO hOO hKW hDO OWNX3 LX3
        refine hK.out _ _ (DX4.out) (fun hHeld => ?_)
        clear hK K
        show wpAnyH _ _ _ _ _ _ _ (Act.put _ (some 27) _) _
        simp only [Act.put, List.setIfInBounds_toArray, List.set_cons_zero, List.set_cons_succ]
        refine wpAnyH_take (i := 6) (v := .pointer (some ⟨gO, 6, none⟩)) rfl (by kernel_rfl) (by kernel_rfl) (by kernel_rfl) (fun _ _ _ h => h) (Or.inl ⟨by rfl, by intro w' h; go_simp⟩) hHeld ?_
        show wpAnyH _ _ _ _ _ _ _ (Act.put _ (some 28) _) _
        simp only [Act.put, List.setIfInBounds_toArray, List.set_cons_zero, List.set_cons_succ]
        refine wpAnyH_ready (rs := [7]) (by kernel_rfl) (by simp) ?_
        refine AllReadyH.cons rfl (fun K hK => ?_) AllReadyH.nil
        obtain ⟨a2, c2, htv2⟩ := own_slice OWNX4.out
        refine step_cell rfl 38 (.tmp 28) (.tmp 27) rfl gO 6 rfl tv2 rfl 40 _ OX4.out (run_store_slice 38 (by decide) X4 gO 6 a2 _ c2 40 _ OX4.out (by simp) tv2 htv2) ?_
        clear htv2
        intro X5 hOb hO
        have hRO : some gR ≠ some gO := fun e => by injection e with e; have := HRO.out; omega
        have hDO : some gc ≠ some gO := fun e => by injection e with e; have := HCO.out; omega
        have hKW : ∀ q, some gO = some q → w.heap.size ≤ q := fun q hq => by injection hq with hq; have := HGO.out; omega
        have hTO : tv2.ownBlock = none ∨ tv2.ownBlock ≠ some gO := .inr (fun e => ownBlock_ne OWNX4.out HOB.out e.symm)
        have BBX5 : Hid (Below w.heap.size w X5) := Lib.hid (BBX4.out.grown hO BBX4.out.size hKW)
        have RX5 : Hid (Blk X5 gR 40 [.int .u32 0, .int .u64 0, .int .u64 0, .int .u64 0, .int .u64 0, .int .u64 0, .slice none 0 0]) := Lib.hid (RX4.out.grown hO hRO)
        have DX5 : Hid (Blk X5 gc 30 c.cells) := Lib.hid (DX4.out.grown hO hDO)
        have ZX5 : Hid (W.heap.size ≤ X5.heap.size) := Lib.hid (Nat.le_trans ZX4.out hO.size)
        have OWNX5 : Hid (X5.ownsRow W.heap.size 47 36 tv2 (k + 1) (cflat (cs.take (k + 1)))) := Lib.hid (OWNX4.out.kept hO hTO)
        have OX5 : Hid (Blk X5 gO 40 [.int .u32 ch, .int .u64 rd, .int .u64 m0, .int .u64 m1, .int .u64 t0, .int .u64 t1, tv2]) := Lib.hid (hOb)
        clear BBX4 RX4 DX4 ZX4 OWNX4 hO hOb hRO hKW hTO hDO OX4
        refine hK.out _ _ (DX5.out) (fun hHeld => ?_)
        clear hK K
        show wpAnyH _ _ _ _ _ _ _ (Act.put _ none _) _
        simp only [Act.put]
        refine wpAnyH_done (by kernel_rfl) ?_ _
        go_wp2
        go_roundw
        case rel => exact ⟨k + 1, tv2, by omega, by go_num, RX5, OX5, OWNX5, BBX5, ZX5⟩
        case measure => simp [intOf] <;> omega
      · refine step_call rfl 30 #[.tmp 24] #[30] rfl #[.agg c.cells.toArray] (by simp [Act.eval]) (by go_simp) (cto_any c X0 HOK.out) ?_
        rintro e X1 ⟨rfl, hB⟩
        have BBX1 : Hid (Below w.heap.size w X1) := Lib.hid (BBX0.out.trans (hB.mono BBX0.out.size))
        have RX1 : Hid (Blk X1 gR 40 [.int .u32 0, .int .u64 0, .int .u64 0, .int .u64 0, .int .u64 0, .int .u64 0, .slice none 0 0]) := Lib.hid (RX0.out.below hB RX0.out.lt)
        have OX1 : Hid (Blk X1 gO 40 [.int .u32 ch, .int .u64 rd, .int .u64 m0, .int .u64 m1, .int .u64 t0, .int .u64 t1, tv]) := Lib.hid (OX0.out.below hB OX0.out.lt)
        have DX1 : Hid (Blk X1 gc 30 c.cells) := Lib.hid (DX0.out.below hB DX0.out.lt)
        have OWNX1 : Hid (X1.ownsRow W.heap.size 47 36 tv k (cflat (cs.take k))) := Lib.hid (own_keep OWNX0.out hB)
        have ZX1 : Hid (W.heap.size ≤ X1.heap.size) := Lib.hid (Nat.le_trans ZX0.out hB.size)
        clear BBX0 RX0 OX0 DX0 OWNX0 ZX0 hB
        refine ⟨_, rfl, hK.out _ _ (DX1.out) (fun hHeld => ?_)⟩
        clear hK K
        show wpAnyH _ _ _ _ _ _ _ (Act.put _ (some 25) _) _
        simp only [Act.put, List.setIfInBounds_toArray, List.set_cons_zero, List.set_cons_succ]
        refine wpAnyH_ready (rs := [1, 4]) (by kernel_rfl) (by simp) ?_
        refine AllReadyH.cons rfl (fun K hK => ?_) (AllReadyH.cons rfl (fun K hK => ?_) AllReadyH.nil)
        · obtain ⟨a1, c1, htv⟩ := own_slice OWNX1.out
          refine step_ld rfl 38 (.tmp 22) rfl gO 6 rfl tv (run_load_slice 38 (by decide) X1 gO 6 a1 _ c1 40 _ OX1.out tv htv rfl) ?_
          clear htv
          refine hK.out _ _ (DX1.out) (fun hHeld => ?_)
          clear hK K
          show wpAnyH _ _ _ _ _ _ _ (Act.put _ (some 23) _) _
          simp only [Act.put, List.setIfInBounds_toArray, List.set_cons_zero, List.set_cons_succ]
          refine wpAnyH_ready (rs := [4]) (by kernel_rfl) (by simp) ?_
          refine AllReadyH.cons rfl (fun K hK => ?_) AllReadyH.nil
          refine step_lay rfl 38 1 #[(0, .tmp 25)] rfl #[(0, .agg c.cells.toArray)] (by simp [Act.eval]) _ _ (lay29 c HOK.out X1) ?_
          have hB : Below X1.heap.size X1 (X1.alloc (.cells c.cells.toArray 47)) := (Below.refl _ _).alloc (Nat.le_refl _) _
          have hL := Blk.new X1 47 c.cells
          generalize X1.alloc (.cells c.cells.toArray 47) = X3 at hB hL ⊢
          obtain ⟨gl, hgl⟩ : ∃ g, X1.heap.size = g := ⟨_, rfl⟩
          rw [hgl] at hL ⊢
          clear hgl
          have BBX3 : Hid (Below w.heap.size w X3) := Lib.hid (BBX1.out.trans (hB.mono BBX1.out.size))
          have RX3 : Hid (Blk X3 gR 40 [.int .u32 0, .int .u64 0, .int .u64 0, .int .u64 0, .int .u64 0, .int .u64 0, .slice none 0 0]) := Lib.hid (RX1.out.below hB RX1.out.lt)
          have OX3 : Hid (Blk X3 gO 40 [.int .u32 ch, .int .u64 rd, .int .u64 m0, .int .u64 m1, .int .u64 t0, .int .u64 t1, tv]) := Lib.hid (OX1.out.below hB OX1.out.lt)
          have DX3 : Hid (Blk X3 gc 30 c.cells) := Lib.hid (DX1.out.below hB DX1.out.lt)
          have OWNX3 : Hid (X3.ownsRow W.heap.size 47 36 tv k (cflat (cs.take k))) := Lib.hid (own_keep OWNX1.out hB)
          have ZX3 : Hid (W.heap.size ≤ X3.heap.size) := Lib.hid (Nat.le_trans ZX1.out hB.size)
          have LX3 : Hid (Blk X3 gl 47 c.cells) := Lib.hid (hL)
          clear BBX1 RX1 OX1 DX1 OWNX1 ZX1 hB hL
          refine hK.out _ _ (DX3.out) (fun hHeld => ?_)
          clear hK K
          show wpAnyH _ _ _ _ _ _ _ (Act.put _ (some 26) _) _
          simp only [Act.put, List.setIfInBounds_toArray, List.set_cons_zero, List.set_cons_succ]
          refine wpAnyH_ready (rs := [5]) (by kernel_rfl) (by simp) ?_
          refine AllReadyH.cons rfl (fun K hK => ?_) AllReadyH.nil
          refine step_own rfl (.tmp 23) (.tmp 26) 38 rfl W.heap.size 47 i0 (.agg cz) 36 64 Tryd.underlying38 hi hz0 hz1 hz2 rfl (by decide) tv k _ rfl OWNX3.out ⟨gl, 0, none⟩ 1 1 c.cells rfl (by rw [HOK.out.len]) (news_of LX3.out) c.one (by unfold maxLen; omega) (by omega) ZX3.out ?_
          intro tv2 X4 hown hO _ _
          have hRO := ownBlock_ne OWNX3.out (show gR < W.heap.size by have := HOB.out; have := HRO.out; omega)
          have hOO := ownBlock_ne OWNX3.out HOB.out
          have hDO : some gc ≠ tv.ownBlock := fun e => by have := HGC.out _ e.symm; omega
          have hKW : ∀ q, tv.ownBlock = some q → w.heap.size ≤ q := fun q hq => Nat.le_trans HBS.out (OWNX3.out.lt q hq).1
          have BBX4 : Hid (Below w.heap.size w X4) := Lib.hid (BBX3.out.grown hO BBX3.out.size hKW)
          have RX4 : Hid (Blk X4 gR 40 [.int .u32 0, .int .u64 0, .int .u64 0, .int .u64 0, .int .u64 0, .int .u64 0, .slice none 0 0]) := Lib.hid (RX3.out.grown hO hRO)
          have OX4 : Hid (Blk X4 gO 40 [.int .u32 ch, .int .u64 rd, .int .u64 m0, .int .u64 m1, .int .u64 t0, .int .u64 t1, tv]) := Lib.hid (OX3.out.grown hO hOO)
          have DX4 : Hid (Blk X4 gc 30 c.cells) := Lib.hid (DX3.out.grown hO hDO)
          have ZX4 : Hid (W.heap.size ≤ X4.heap.size) := Lib.hid (Nat.le_trans ZX3.out hO.size)
          have OWNX4 : Hid (X4.ownsRow W.heap.size 47 36 tv2 (k + 1) (cflat (cs.take (k + 1)))) := Lib.hid (HF.out ▸ hown)
          clear BBX3 RX3 OX3 DX3 ZX3 hO hown hRO hOO hKW hDO OWNX3 LX3
          refine hK.out _ _ (DX4.out) (fun hHeld => ?_)
          clear hK K
          show wpAnyH _ _ _ _ _ _ _ (Act.put _ (some 27) _) _
          simp only [Act.put, List.setIfInBounds_toArray, List.set_cons_zero, List.set_cons_succ]
          refine wpAnyH_take (i := 6) (v := .pointer (some ⟨gO, 6, none⟩)) rfl (by kernel_rfl) (by kernel_rfl) (by kernel_rfl) (fun _ _ _ h => h) (Or.inl ⟨by rfl, by intro w' h; go_simp⟩) hHeld ?_
          show wpAnyH _ _ _ _ _ _ _ (Act.put _ (some 28) _) _
          simp only [Act.put, List.setIfInBounds_toArray, List.set_cons_zero, List.set_cons_succ]
          refine wpAnyH_ready (rs := [7]) (by kernel_rfl) (by simp) ?_
          refine AllReadyH.cons rfl (fun K hK => ?_) AllReadyH.nil
          obtain ⟨a2, c2, htv2⟩ := own_slice OWNX4.out
          refine step_cell rfl 38 (.tmp 28) (.tmp 27) rfl gO 6 rfl tv2 rfl 40 _ OX4.out (run_store_slice 38 (by decide) X4 gO 6 a2 _ c2 40 _ OX4.out (by simp) tv2 htv2) ?_
          clear htv2
          intro X5 hOb hO
          have hRO : some gR ≠ some gO := fun e => by injection e with e; have := HRO.out; omega
          have hDO : some gc ≠ some gO := fun e => by injection e with e; have := HCO.out; omega
          have hKW : ∀ q, some gO = some q → w.heap.size ≤ q := fun q hq => by injection hq with hq; have := HGO.out; omega
          have hTO : tv2.ownBlock = none ∨ tv2.ownBlock ≠ some gO := .inr (fun e => ownBlock_ne OWNX4.out HOB.out e.symm)
          have BBX5 : Hid (Below w.heap.size w X5) := Lib.hid (BBX4.out.grown hO BBX4.out.size hKW)
          have RX5 : Hid (Blk X5 gR 40 [.int .u32 0, .int .u64 0, .int .u64 0, .int .u64 0, .int .u64 0, .int .u64 0, .slice none 0 0]) := Lib.hid (RX4.out.grown hO hRO)
          have DX5 : Hid (Blk X5 gc 30 c.cells) := Lib.hid (DX4.out.grown hO hDO)
          have ZX5 : Hid (W.heap.size ≤ X5.heap.size) := Lib.hid (Nat.le_trans ZX4.out hO.size)
          have OWNX5 : Hid (X5.ownsRow W.heap.size 47 36 tv2 (k + 1) (cflat (cs.take (k + 1)))) := Lib.hid (OWNX4.out.kept hO hTO)
          have OX5 : Hid (Blk X5 gO 40 [.int .u32 ch, .int .u64 rd, .int .u64 m0, .int .u64 m1, .int .u64 t0, .int .u64 t1, tv2]) := Lib.hid (hOb)
          clear BBX4 RX4 DX4 ZX4 OWNX4 hO hOb hRO hKW hTO hDO OX4
          refine hK.out _ _ (DX5.out) (fun hHeld => ?_)
          clear hK K
          show wpAnyH _ _ _ _ _ _ _ (Act.put _ none _) _
          simp only [Act.put]
          refine wpAnyH_done (by kernel_rfl) ?_ _
          go_wp2
          go_roundw
          case rel => exact ⟨k + 1, tv2, by omega, by go_num, RX5, OX5, OWNX5, BBX5, ZX5⟩
          case measure => simp [intOf] <;> omega
        · refine step_lay rfl 38 1 #[(0, .tmp 25)] rfl #[(0, .agg c.cells.toArray)] (by simp [Act.eval]) _ _ (lay29 c HOK.out X1) ?_
          have hB : Below X1.heap.size X1 (X1.alloc (.cells c.cells.toArray 47)) := (Below.refl _ _).alloc (Nat.le_refl _) _
          have hL := Blk.new X1 47 c.cells
          generalize X1.alloc (.cells c.cells.toArray 47) = X2 at hB hL ⊢
          obtain ⟨gl, hgl⟩ : ∃ g, X1.heap.size = g := ⟨_, rfl⟩
          rw [hgl] at hL ⊢
          clear hgl
          have BBX2 : Hid (Below w.heap.size w X2) := Lib.hid (BBX1.out.trans (hB.mono BBX1.out.size))
          have RX2 : Hid (Blk X2 gR 40 [.int .u32 0, .int .u64 0, .int .u64 0, .int .u64 0, .int .u64 0, .int .u64 0, .slice none 0 0]) := Lib.hid (RX1.out.below hB RX1.out.lt)
          have OX2 : Hid (Blk X2 gO 40 [.int .u32 ch, .int .u64 rd, .int .u64 m0, .int .u64 m1, .int .u64 t0, .int .u64 t1, tv]) := Lib.hid (OX1.out.below hB OX1.out.lt)
          have DX2 : Hid (Blk X2 gc 30 c.cells) := Lib.hid (DX1.out.below hB DX1.out.lt)
          have OWNX2 : Hid (X2.ownsRow W.heap.size 47 36 tv k (cflat (cs.take k))) := Lib.hid (own_keep OWNX1.out hB)
          have ZX2 : Hid (W.heap.size ≤ X2.heap.size) := Lib.hid (Nat.le_trans ZX1.out hB.size)
          have LX2 : Hid (Blk X2 gl 47 c.cells) := Lib.hid (hL)
          clear BBX1 RX1 OX1 DX1 OWNX1 ZX1 hB hL
          refine hK.out _ _ (DX2.out) (fun hHeld => ?_)
          clear hK K
          show wpAnyH _ _ _ _ _ _ _ (Act.put _ (some 26) _) _
          simp only [Act.put, List.setIfInBounds_toArray, List.set_cons_zero, List.set_cons_succ]
          refine wpAnyH_ready (rs := [1]) (by kernel_rfl) (by simp) ?_
          refine AllReadyH.cons rfl (fun K hK => ?_) AllReadyH.nil
          obtain ⟨a1, c1, htv⟩ := own_slice OWNX2.out
          refine step_ld rfl 38 (.tmp 22) rfl gO 6 rfl tv (run_load_slice 38 (by decide) X2 gO 6 a1 _ c1 40 _ OX2.out tv htv rfl) ?_
          clear htv
          refine hK.out _ _ (DX2.out) (fun hHeld => ?_)
          clear hK K
          show wpAnyH _ _ _ _ _ _ _ (Act.put _ (some 23) _) _
          simp only [Act.put, List.setIfInBounds_toArray, List.set_cons_zero, List.set_cons_succ]
          refine wpAnyH_ready (rs := [5]) (by kernel_rfl) (by simp) ?_
          refine AllReadyH.cons rfl (fun K hK => ?_) AllReadyH.nil
          refine step_own rfl (.tmp 23) (.tmp 26) 38 rfl W.heap.size 47 i0 (.agg cz) 36 64 Tryd.underlying38 hi hz0 hz1 hz2 rfl (by decide) tv k _ rfl OWNX2.out ⟨gl, 0, none⟩ 1 1 c.cells rfl (by rw [HOK.out.len]) (news_of LX2.out) c.one (by unfold maxLen; omega) (by omega) ZX2.out ?_
          intro tv2 X4 hown hO _ _
          have hRO := ownBlock_ne OWNX2.out (show gR < W.heap.size by have := HOB.out; have := HRO.out; omega)
          have hOO := ownBlock_ne OWNX2.out HOB.out
          have hDO : some gc ≠ tv.ownBlock := fun e => by have := HGC.out _ e.symm; omega
          have hKW : ∀ q, tv.ownBlock = some q → w.heap.size ≤ q := fun q hq => Nat.le_trans HBS.out (OWNX2.out.lt q hq).1
          have BBX4 : Hid (Below w.heap.size w X4) := Lib.hid (BBX2.out.grown hO BBX2.out.size hKW)
          have RX4 : Hid (Blk X4 gR 40 [.int .u32 0, .int .u64 0, .int .u64 0, .int .u64 0, .int .u64 0, .int .u64 0, .slice none 0 0]) := Lib.hid (RX2.out.grown hO hRO)
          have OX4 : Hid (Blk X4 gO 40 [.int .u32 ch, .int .u64 rd, .int .u64 m0, .int .u64 m1, .int .u64 t0, .int .u64 t1, tv]) := Lib.hid (OX2.out.grown hO hOO)
          have DX4 : Hid (Blk X4 gc 30 c.cells) := Lib.hid (DX2.out.grown hO hDO)
          have ZX4 : Hid (W.heap.size ≤ X4.heap.size) := Lib.hid (Nat.le_trans ZX2.out hO.size)
          have OWNX4 : Hid (X4.ownsRow W.heap.size 47 36 tv2 (k + 1) (cflat (cs.take (k + 1)))) := Lib.hid (HF.out ▸ hown)
          clear BBX2 RX2 OX2 DX2 ZX2 hO hown hRO hOO hKW hDO OWNX2 LX2
          refine hK.out _ _ (DX4.out) (fun hHeld => ?_)
          clear hK K
          show wpAnyH _ _ _ _ _ _ _ (Act.put _ (some 27) _) _
          simp only [Act.put, List.setIfInBounds_toArray, List.set_cons_zero, List.set_cons_succ]
          refine wpAnyH_take (i := 6) (v := .pointer (some ⟨gO, 6, none⟩)) rfl (by kernel_rfl) (by kernel_rfl) (by kernel_rfl) (fun _ _ _ h => h) (Or.inl ⟨by rfl, by intro w' h; go_simp⟩) hHeld ?_
          show wpAnyH _ _ _ _ _ _ _ (Act.put _ (some 28) _) _
          simp only [Act.put, List.setIfInBounds_toArray, List.set_cons_zero, List.set_cons_succ]
          refine wpAnyH_ready (rs := [7]) (by kernel_rfl) (by simp) ?_
          refine AllReadyH.cons rfl (fun K hK => ?_) AllReadyH.nil
          obtain ⟨a2, c2, htv2⟩ := own_slice OWNX4.out
          refine step_cell rfl 38 (.tmp 28) (.tmp 27) rfl gO 6 rfl tv2 rfl 40 _ OX4.out (run_store_slice 38 (by decide) X4 gO 6 a2 _ c2 40 _ OX4.out (by simp) tv2 htv2) ?_
          clear htv2
          intro X5 hOb hO
          have hRO : some gR ≠ some gO := fun e => by injection e with e; have := HRO.out; omega
          have hDO : some gc ≠ some gO := fun e => by injection e with e; have := HCO.out; omega
          have hKW : ∀ q, some gO = some q → w.heap.size ≤ q := fun q hq => by injection hq with hq; have := HGO.out; omega
          have hTO : tv2.ownBlock = none ∨ tv2.ownBlock ≠ some gO := .inr (fun e => ownBlock_ne OWNX4.out HOB.out e.symm)
          have BBX5 : Hid (Below w.heap.size w X5) := Lib.hid (BBX4.out.grown hO BBX4.out.size hKW)
          have RX5 : Hid (Blk X5 gR 40 [.int .u32 0, .int .u64 0, .int .u64 0, .int .u64 0, .int .u64 0, .int .u64 0, .slice none 0 0]) := Lib.hid (RX4.out.grown hO hRO)
          have DX5 : Hid (Blk X5 gc 30 c.cells) := Lib.hid (DX4.out.grown hO hDO)
          have ZX5 : Hid (W.heap.size ≤ X5.heap.size) := Lib.hid (Nat.le_trans ZX4.out hO.size)
          have OWNX5 : Hid (X5.ownsRow W.heap.size 47 36 tv2 (k + 1) (cflat (cs.take (k + 1)))) := Lib.hid (OWNX4.out.kept hO hTO)
          have OX5 : Hid (Blk X5 gO 40 [.int .u32 ch, .int .u64 rd, .int .u64 m0, .int .u64 m1, .int .u64 t0, .int .u64 t1, tv2]) := Lib.hid (hOb)
          clear BBX4 RX4 DX4 ZX4 OWNX4 hO hOb hRO hKW hTO hDO OX4
          refine hK.out _ _ (DX5.out) (fun hHeld => ?_)
          clear hK K
          show wpAnyH _ _ _ _ _ _ _ (Act.put _ none _) _
          simp only [Act.put]
          refine wpAnyH_done (by kernel_rfl) ?_ _
          go_wp2
          go_roundw
          case rel => exact ⟨k + 1, tv2, by omega, by go_num, RX5, OX5, OWNX5, BBX5, ZX5⟩
          case measure => simp [intOf] <;> omega
    · have hkn : k = n := by omega
      subst hkn
      obtain ⟨a', c', rfl⟩ := own_slice OW.out
      have hz1 : (Tryd.prog.info? 40).map (·.size) = some (#[.int .u32 ch, .int .u64 rd, .int .u64 m0, .int .u64 m1, .int .u64 t0, .int .u64 t1, .slice a' k c'] : Array Value).size := info31
      have p0 := O0.out.cell 0
      have p1 := O0.out.cell 1
      have p2 := O0.out.cell 2
      have p3 := O0.out.cell 3
      have p4 := O0.out.cell 4
      have p5 := O0.out.cell 5
      have p6 := O0.out.cell 6
      simp only [List.getElem?_cons_zero, List.getElem?_cons_succ] at p0 p1 p2 p3 p4 p5 p6
      have r0 := R0.out.cell 0
      have r1 := R0.out.cell 1
      have r2 := R0.out.cell 2
      have r3 := R0.out.cell 3
      have r4 := R0.out.cell 4
      have r5 := R0.out.cell 5
      have r6 := R0.out.cell 6
      simp only [List.getElem?_cons_zero, List.getElem?_cons_succ] at r0 r1 r2 r3 r4 r5 r6
      have f0 := R0.out.frozen 0
      have f1 := R0.out.frozen 1
      have f2 := R0.out.frozen 2
      have f3 := R0.out.frozen 3
      have f4 := R0.out.frozen 4
      have f5 := R0.out.frozen 5
      have f6 := R0.out.frozen 6
      go_wp2
      have hGR : Hid (gR < W.heap.size) := Lib.hid (by have := HOB.out; have := HRO.out; omega)
      have hown : ((((((((wr.setCell ⟨gR, 0, none⟩ (.int .u32 ch)).setCell ⟨gR, 1, none⟩ (.int .u64 rd)).setCell ⟨gR, 2, none⟩ (.int .u64 m0)).setCell ⟨gR, 3, none⟩ (.int .u64 m1)).setCell ⟨gR, 4, none⟩ (.int .u64 t0)).setCell ⟨gR, 5, none⟩ (.int .u64 t1)).setCell ⟨gR, 6, none⟩ (.slice a' k c'))).ownsRow w.heap.size 47 36 (.slice a' k c') k (cflat cs) := by
        have h1 := (own_mono OW.out HBS.out).kept ((only_setCell (p := ⟨gR, 6, none⟩) (only_setCell (p := ⟨gR, 5, none⟩) (only_setCell (p := ⟨gR, 4, none⟩) (only_setCell (p := ⟨gR, 3, none⟩) (only_setCell (p := ⟨gR, 2, none⟩) (only_setCell (p := ⟨gR, 1, none⟩) (only_setCell (p := ⟨gR, 0, none⟩) (only_refl wr (some gR)) (.inl rfl) (.int .u32 ch)) (.inl rfl) (.int .u64 rd)) (.inl rfl) (.int .u64 m0)) (.inl rfl) (.int .u64 m1)) (.inl rfl) (.int .u64 t0)) (.inl rfl) (.int .u64 t1)) (.inl rfl) (.slice a' k c'))) (.inr (fun e => ownBlock_ne OW.out hGR.out e.symm))
        rw [List.take_of_length_le (by rw [HL.out]; omega)] at h1
        exact h1
      have hRR : Blk ((((((((wr.setCell ⟨gR, 0, none⟩ (.int .u32 ch)).setCell ⟨gR, 1, none⟩ (.int .u64 rd)).setCell ⟨gR, 2, none⟩ (.int .u64 m0)).setCell ⟨gR, 3, none⟩ (.int .u64 m1)).setCell ⟨gR, 4, none⟩ (.int .u64 t0)).setCell ⟨gR, 5, none⟩ (.int .u64 t1)).setCell ⟨gR, 6, none⟩ (.slice a' k c'))) gR 40 [.int .u32 ch, .int .u64 rd, .int .u64 m0, .int .u64 m1, .int .u64 t0, .int .u64 t1, .slice a' k c'] := (((((((R0.out.set_ 0 _).set_ 1 _).set_ 2 _).set_ 3 _).set_ 4 _).set_ 5 _).set_ 6 _)
      exact bodyPost_ret (results_cell_row Tryd.results8 _ _ gR 40 #[.int .u32 ch, .int .u64 rd, .int .u64 m0, .int .u64 m1, .int .u64 t0, .int .u64 t1, .slice a' k c'] (0, 0) _ rfl hRR Tryd.underlying40 rfl hz1) rfl ⟨a', c', rfl, hown, (((((((HB.out.setCell (p := ⟨gR, 0, none⟩) HGR.out _).setCell (p := ⟨gR, 1, none⟩) HGR.out _).setCell (p := ⟨gR, 2, none⟩) HGR.out _).setCell (p := ⟨gR, 3, none⟩) HGR.out _).setCell (p := ⟨gR, 4, none⟩) HGR.out _).setCell (p := ⟨gR, 5, none⟩) HGR.out _).setCell (p := ⟨gR, 6, none⟩) HGR.out _)⟩

end Go.Proofs.YtbdjlnejlkiijaaDoorRRR
