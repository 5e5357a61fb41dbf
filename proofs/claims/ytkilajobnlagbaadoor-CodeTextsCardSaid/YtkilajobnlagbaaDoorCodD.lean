/-
  A run's stack: what an order does.
-/
import Derived.Test.YtkilajobnlagbaaDoorCodC
namespace Go.Proofs.YtkilajobnlagbaaDoor
open Go.RowKit
set_option linter.unusedVariables false

/-- A slice of amounts, of answers, that came in. -/
structure FRow (w : World) (A : Option Addr) (n : Nat) (l : List Int) : Prop where
  len : l.length = n
  word : ∀ x ∈ l, Word x
  at_ : ∀ i, i < l.length → ∃ b o, A = some ⟨b, o, none⟩ ∧ b < w.heap.size ∧ w.cell? ⟨b, o + i, none⟩ = some (.int .u64 (l.getD i 0))
structure BRow (w : World) (A : Option Addr) (n : Nat) (l : List Bool) : Prop where
  len : l.length = n
  at_ : ∀ i, i < l.length → ∃ b o, A = some ⟨b, o, none⟩ ∧ b < w.heap.size ∧ w.cell? ⟨b, o + i, none⟩ = some (.bool (l.getD i false))
theorem FRow.below {w w' : World} {A : Option Addr} {n : Nat} {l : List Int} {B : Nat} (h : FRow w A n l) (hB : Below w.heap.size w w') : FRow w' A n l := ⟨h.len, h.word, fun i hi => by
  obtain ⟨b, o, ha, hb, hc⟩ := h.at_ i hi
  exact ⟨b, o, ha, Nat.lt_of_lt_of_le hb hB.size, (hB.cell (p := ⟨b, o + i, none⟩) hb).trans hc⟩⟩
theorem BRow.below {w w' : World} {A : Option Addr} {n : Nat} {l : List Bool} (h : BRow w A n l) (hB : Below w.heap.size w w') : BRow w' A n l := ⟨h.len, fun i hi => by
  obtain ⟨b, o, ha, hb, hc⟩ := h.at_ i hi
  exact ⟨b, o, ha, Nat.lt_of_lt_of_le hb hB.size, (hB.cell (p := ⟨b, o + i, none⟩) hb).trans hc⟩⟩
def one01 (b : Bool) : Int := if b then 1 else 0
/-- What an order lays of its number and of what it took, or what is wrong. -/
def laysR (op : Nat) (num : Nat) (fs : List Int) (ps : List Bool) (ht a b : Int) : Int × List Int :=
  match op with
  | 1 => (0, [(num : Int)])
  | 2 => if fs.length ≤ num then (1, []) else (0, [fs.getD num 0])
  | 3 => (addE a b, [addV a b])
  | 4 => (subE a b, [subV a b])
  | 5 => (mulE a b, [mulV a b])
  | 6 => (0, [one01 (decide (a < b))])
  | 7 => (0, [one01 (decide (a = b))])
  | 8 => (0, [one01 (decide (a = 0))])
  | 9 => (0, [one01 (decide (a ≠ 0) && decide (b ≠ 0))])
  | 10 => (0, [one01 (decide (a ≠ 0) || decide (b ≠ 0))])
  | 13 => (0, [a, a])
  | 14 => (0, [b, a])
  | 16 => if ps.length ≤ num then (1, []) else (0, [one01 (ps.getD num false)])
  | 17 => (0, [ht])
  | _ => (0, [])
def doE (l : List Int) (r : Int × List Int) : Int := if r.1 = 0 then layE l r.2 else r.1
def doL (l : List Int) (r : Int × List Int) : List Int := if r.1 = 0 then layL l r.2 else l

section
variable {gs base : Nat} {l : List Int} {w : World}
theorem up2 (oA oB : Obj) : Below w.heap.size w ((w.alloc oA).alloc oB) := ((Below.refl _ _).alloc (Nat.le_refl _) _).alloc (by simp) _
theorem lay3 (m : Nat) (ls : List Int) (oA oB : Obj) (HS : Hid (Stk w gs base l)) (hb : base ≤ gs) (hm : ls.length = m) (hl : l.length ≤ 32) (hm2 : m ≤ 2) :
    Calls Tryd.prog 38 #[.pointer (some ⟨gs, 0, none⟩), .slice (some ⟨w.heap.size + 1 + 1, 0, none⟩) m m] (((w.alloc oA).alloc oB).alloc (.cells (u64s ls).toArray 25)) (LayPost gs base (layE l ls) (layL l ls) w) := by
  have hbw : base ≤ w.heap.size := Nat.le_trans hb (Nat.le_of_lt HS.out.lt)
  have hB : Below w.heap.size w (((w.alloc oA).alloc oB).alloc (.cells (u64s ls).toArray 25)) := (up2 oA oB).alloc (by simp; omega) _
  have hbl := Blk.new ((w.alloc oA).alloc oB) 25 (u64s ls)
  rw [World.size_alloc, World.size_alloc] at hbl
  refine (lay_any gs base (w.heap.size + 1 + 1) m l ls _ (Lib.hid (HS.out.below hB)) hb (Lib.hid hbl) hm hl hm2).mono ?_
  rintro e w' ⟨rfl, hs, hT⟩
  exact ⟨rfl, hs, (Turn.new hbw hB).trans hT⟩
theorem truth2 (b : Bool) (oA oB : Obj) (HS : Hid (Stk w gs base l)) (hb : base ≤ gs) (hl : l.length ≤ 32) :
    Calls Tryd.prog 43 #[.pointer (some ⟨gs, 0, none⟩), .bool b] ((w.alloc oA).alloc oB) (LayPost gs base (layE l [one01 b]) (layL l [one01 b]) w) := by
  have hbw : base ≤ w.heap.size := Nat.le_trans hb (Nat.le_of_lt HS.out.lt)
  refine (layTruth_any gs base b l _ (Lib.hid (HS.out.below (up2 oA oB))) hb hl).mono ?_
  rintro e w' ⟨rfl, hs, hT⟩
  exact ⟨rfl, hs, (Turn.new hbw (up2 oA oB)).trans hT⟩
theorem amount2 (x E : Int) (oA oB : Obj) (HS : Hid (Stk w gs base l)) (hb : base ≤ gs) (hl : l.length ≤ 32) :
    Calls Tryd.prog 39 #[.pointer (some ⟨gs, 0, none⟩), .int .u64 x, .int .i64 E] ((w.alloc oA).alloc oB) (LayPost gs base (doE l (E, [x])) (doL l (E, [x])) w) := by
  have hbw : base ≤ w.heap.size := Nat.le_trans hb (Nat.le_of_lt HS.out.lt)
  refine (layAmount_any gs base x E l _ (Lib.hid (HS.out.below (up2 oA oB))) hb hl).mono ?_
  rintro e w' ⟨rfl, hs, hT⟩
  exact ⟨rfl, hs, (Turn.new hbw (up2 oA oB)).trans hT⟩
end

set_option maxRecDepth 100000 in
set_option maxHeartbeats 4000000 in
theorem do_1 (gs base num bh : Nat) (NM : ByteArray) (F C TK : Nat) (fa : Option Addr) (fn fc : Nat) (pa : Option Addr) (pn pc : Nat) (ht a b : Int) (fs : List Int) (ps : List Bool) (l : List Int) (w : World) (HS : Hid (Stk w gs base l)) (hb : base ≤ gs) (hl : l.length ≤ 32) (HF : Hid (FRow w fa fn fs)) (HP : Hid (BRow w pa pn ps)) (hfn : fn ≤ 1000000) (hpn : pn ≤ 1000000) (hnum : (num : Int) ≤ 18446744073709551615) (ha : Word a) (hbb : Word b) :
    Calls Tryd.prog 22 #[.pointer (some ⟨gs, 0, none⟩), .agg #[.int .i64 1, .string NM, .int .i64 (F : Int), .int .i64 (C : Int), .int .i64 (TK : Int), .int .u64 (num : Int), .int .i64 (bh : Int)], .int .u64 a, .int .u64 b, .agg #[.slice fa fn fc, .slice pa pn pc, .int .u64 ht]] w (LayPost gs base (doE l (laysR 1 num fs ps ht a b)) (doL l (laysR 1 num fs ps ht a b)) w) := by
  have HK := Lib.hid (fun oA oB => lay3 (w := w) 1 [(num : Int)] oA oB HS hb rfl hl (by omega))
  have e1 : doE l (laysR 1 num fs ps ht a b) = layE l [(num : Int)] := rfl
  have e2 : doL l (laysR 1 num fs ps ht a b) = layL l [(num : Int)] := rfl
  rw [e1, e2]
  clear e1 e2
  clear HF HP hfn hpn hnum ha hbb
  go_enter Tryd.func22, Tryd.ntmps22
  go_wp2_with fail
  refine (HK.out _ _).mono ?_
  rintro e w' ⟨rfl, hs, hT⟩
  have H := Lib.hid (And.intro hs hT)
  clear hs hT HK
  go_wp2
  go_ret
  exact ⟨rfl, H.out⟩

set_option maxRecDepth 100000 in
set_option maxHeartbeats 4000000 in
theorem do_17 (gs base num bh : Nat) (NM : ByteArray) (F C TK : Nat) (fa : Option Addr) (fn fc : Nat) (pa : Option Addr) (pn pc : Nat) (ht a b : Int) (fs : List Int) (ps : List Bool) (l : List Int) (w : World) (HS : Hid (Stk w gs base l)) (hb : base ≤ gs) (hl : l.length ≤ 32) (HF : Hid (FRow w fa fn fs)) (HP : Hid (BRow w pa pn ps)) (hfn : fn ≤ 1000000) (hpn : pn ≤ 1000000) (hnum : (num : Int) ≤ 18446744073709551615) (ha : Word a) (hbb : Word b) :
    Calls Tryd.prog 22 #[.pointer (some ⟨gs, 0, none⟩), .agg #[.int .i64 17, .string NM, .int .i64 (F : Int), .int .i64 (C : Int), .int .i64 (TK : Int), .int .u64 (num : Int), .int .i64 (bh : Int)], .int .u64 a, .int .u64 b, .agg #[.slice fa fn fc, .slice pa pn pc, .int .u64 ht]] w (LayPost gs base (doE l (laysR 17 num fs ps ht a b)) (doL l (laysR 17 num fs ps ht a b)) w) := by
  have HK := Lib.hid (fun oA oB => lay3 (w := w) 1 [ht] oA oB HS hb rfl hl (by omega))
  have e1 : doE l (laysR 17 num fs ps ht a b) = layE l [ht] := rfl
  have e2 : doL l (laysR 17 num fs ps ht a b) = layL l [ht] := rfl
  rw [e1, e2]
  clear e1 e2
  clear HF HP hfn hpn hnum ha hbb
  go_enter Tryd.func22, Tryd.ntmps22
  go_wp2_with fail
  refine (HK.out _ _).mono ?_
  rintro e w' ⟨rfl, hs, hT⟩
  have H := Lib.hid (And.intro hs hT)
  clear hs hT HK
  go_wp2
  go_ret
  exact ⟨rfl, H.out⟩

set_option maxRecDepth 100000 in
set_option maxHeartbeats 4000000 in
theorem do_13 (gs base num bh : Nat) (NM : ByteArray) (F C TK : Nat) (fa : Option Addr) (fn fc : Nat) (pa : Option Addr) (pn pc : Nat) (ht a b : Int) (fs : List Int) (ps : List Bool) (l : List Int) (w : World) (HS : Hid (Stk w gs base l)) (hb : base ≤ gs) (hl : l.length ≤ 32) (HF : Hid (FRow w fa fn fs)) (HP : Hid (BRow w pa pn ps)) (hfn : fn ≤ 1000000) (hpn : pn ≤ 1000000) (hnum : (num : Int) ≤ 18446744073709551615) (ha : Word a) (hbb : Word b) :
    Calls Tryd.prog 22 #[.pointer (some ⟨gs, 0, none⟩), .agg #[.int .i64 13, .string NM, .int .i64 (F : Int), .int .i64 (C : Int), .int .i64 (TK : Int), .int .u64 (num : Int), .int .i64 (bh : Int)], .int .u64 a, .int .u64 b, .agg #[.slice fa fn fc, .slice pa pn pc, .int .u64 ht]] w (LayPost gs base (doE l (laysR 13 num fs ps ht a b)) (doL l (laysR 13 num fs ps ht a b)) w) := by
  have HK := Lib.hid (fun oA oB => lay3 (w := w) 2 [a, a] oA oB HS hb rfl hl (by omega))
  have e1 : doE l (laysR 13 num fs ps ht a b) = layE l [a, a] := rfl
  have e2 : doL l (laysR 13 num fs ps ht a b) = layL l [a, a] := rfl
  rw [e1, e2]
  clear e1 e2
  clear HF HP hfn hpn hnum ha hbb
  go_enter Tryd.func22, Tryd.ntmps22
  go_wp2_with fail
  refine (HK.out _ _).mono ?_
  rintro e w' ⟨rfl, hs, hT⟩
  have H := Lib.hid (And.intro hs hT)
  clear hs hT HK
  go_wp2
  go_ret
  exact ⟨rfl, H.out⟩

set_option maxRecDepth 100000 in
set_option maxHeartbeats 4000000 in
theorem do_14 (gs base num bh : Nat) (NM : ByteArray) (F C TK : Nat) (fa : Option Addr) (fn fc : Nat) (pa : Option Addr) (pn pc : Nat) (ht a b : Int) (fs : List Int) (ps : List Bool) (l : List Int) (w : World) (HS : Hid (Stk w gs base l)) (hb : base ≤ gs) (hl : l.length ≤ 32) (HF : Hid (FRow w fa fn fs)) (HP : Hid (BRow w pa pn ps)) (hfn : fn ≤ 1000000) (hpn : pn ≤ 1000000) (hnum : (num : Int) ≤ 18446744073709551615) (ha : Word a) (hbb : Word b) :
    Calls Tryd.prog 22 #[.pointer (some ⟨gs, 0, none⟩), .agg #[.int .i64 14, .string NM, .int .i64 (F : Int), .int .i64 (C : Int), .int .i64 (TK : Int), .int .u64 (num : Int), .int .i64 (bh : Int)], .int .u64 a, .int .u64 b, .agg #[.slice fa fn fc, .slice pa pn pc, .int .u64 ht]] w (LayPost gs base (doE l (laysR 14 num fs ps ht a b)) (doL l (laysR 14 num fs ps ht a b)) w) := by
  have HK := Lib.hid (fun oA oB => lay3 (w := w) 2 [b, a] oA oB HS hb rfl hl (by omega))
  have e1 : doE l (laysR 14 num fs ps ht a b) = layE l [b, a] := rfl
  have e2 : doL l (laysR 14 num fs ps ht a b) = layL l [b, a] := rfl
  rw [e1, e2]
  clear e1 e2
  clear HF HP hfn hpn hnum ha hbb
  go_enter Tryd.func22, Tryd.ntmps22
  go_wp2_with fail
  refine (HK.out _ _).mono ?_
  rintro e w' ⟨rfl, hs, hT⟩
  have H := Lib.hid (And.intro hs hT)
  clear hs hT HK
  go_wp2
  go_ret
  exact ⟨rfl, H.out⟩

set_option maxRecDepth 100000 in
set_option maxHeartbeats 4000000 in
theorem do_3 (gs base num bh : Nat) (NM : ByteArray) (F C TK : Nat) (fa : Option Addr) (fn fc : Nat) (pa : Option Addr) (pn pc : Nat) (ht a b : Int) (fs : List Int) (ps : List Bool) (l : List Int) (w : World) (HS : Hid (Stk w gs base l)) (hb : base ≤ gs) (hl : l.length ≤ 32) (HF : Hid (FRow w fa fn fs)) (HP : Hid (BRow w pa pn ps)) (hfn : fn ≤ 1000000) (hpn : pn ≤ 1000000) (hnum : (num : Int) ≤ 18446744073709551615) (ha : Word a) (hbb : Word b) :
    Calls Tryd.prog 22 #[.pointer (some ⟨gs, 0, none⟩), .agg #[.int .i64 3, .string NM, .int .i64 (F : Int), .int .i64 (C : Int), .int .i64 (TK : Int), .int .u64 (num : Int), .int .i64 (bh : Int)], .int .u64 a, .int .u64 b, .agg #[.slice fa fn fc, .slice pa pn pc, .int .u64 ht]] w (LayPost gs base (doE l (laysR 3 num fs ps ht a b)) (doL l (laysR 3 num fs ps ht a b)) w) := by
  have HK := Lib.hid (fun oA oB => amount2 (w := w) (addV a b) (addE a b) oA oB HS hb hl)
  have HM := Lib.hid (fun W => add_any a b W ha hbb)
  have e1 : laysR 3 num fs ps ht a b = (addE a b, [addV a b]) := rfl
  rw [e1]
  clear e1
  clear HF HP hfn hpn hnum ha hbb
  go_enter Tryd.func22, Tryd.ntmps22
  go_wp2_with fail
  refine (HM.out _).mono ?_
  rintro e w1 ⟨rfl, rfl⟩
  go_wp2_with fail
  refine (HK.out _ _).mono ?_
  rintro e w' ⟨rfl, hs, hT⟩
  have H := Lib.hid (And.intro hs hT)
  clear hs hT HK
  go_wp2
  go_ret
  exact ⟨rfl, H.out⟩

set_option maxRecDepth 100000 in
set_option maxHeartbeats 4000000 in
theorem do_4 (gs base num bh : Nat) (NM : ByteArray) (F C TK : Nat) (fa : Option Addr) (fn fc : Nat) (pa : Option Addr) (pn pc : Nat) (ht a b : Int) (fs : List Int) (ps : List Bool) (l : List Int) (w : World) (HS : Hid (Stk w gs base l)) (hb : base ≤ gs) (hl : l.length ≤ 32) (HF : Hid (FRow w fa fn fs)) (HP : Hid (BRow w pa pn ps)) (hfn : fn ≤ 1000000) (hpn : pn ≤ 1000000) (hnum : (num : Int) ≤ 18446744073709551615) (ha : Word a) (hbb : Word b) :
    Calls Tryd.prog 22 #[.pointer (some ⟨gs, 0, none⟩), .agg #[.int .i64 4, .string NM, .int .i64 (F : Int), .int .i64 (C : Int), .int .i64 (TK : Int), .int .u64 (num : Int), .int .i64 (bh : Int)], .int .u64 a, .int .u64 b, .agg #[.slice fa fn fc, .slice pa pn pc, .int .u64 ht]] w (LayPost gs base (doE l (laysR 4 num fs ps ht a b)) (doL l (laysR 4 num fs ps ht a b)) w) := by
  have HK := Lib.hid (fun oA oB => amount2 (w := w) (subV a b) (subE a b) oA oB HS hb hl)
  have HM := Lib.hid (fun W => sub_any a b W ha hbb)
  have e1 : laysR 4 num fs ps ht a b = (subE a b, [subV a b]) := rfl
  rw [e1]
  clear e1
  clear HF HP hfn hpn hnum ha hbb
  go_enter Tryd.func22, Tryd.ntmps22
  go_wp2_with fail
  refine (HM.out _).mono ?_
  rintro e w1 ⟨rfl, rfl⟩
  go_wp2_with fail
  refine (HK.out _ _).mono ?_
  rintro e w' ⟨rfl, hs, hT⟩
  have H := Lib.hid (And.intro hs hT)
  clear hs hT HK
  go_wp2
  go_ret
  exact ⟨rfl, H.out⟩

set_option maxRecDepth 100000 in
set_option maxHeartbeats 4000000 in
theorem do_5 (gs base num bh : Nat) (NM : ByteArray) (F C TK : Nat) (fa : Option Addr) (fn fc : Nat) (pa : Option Addr) (pn pc : Nat) (ht a b : Int) (fs : List Int) (ps : List Bool) (l : List Int) (w : World) (HS : Hid (Stk w gs base l)) (hb : base ≤ gs) (hl : l.length ≤ 32) (HF : Hid (FRow w fa fn fs)) (HP : Hid (BRow w pa pn ps)) (hfn : fn ≤ 1000000) (hpn : pn ≤ 1000000) (hnum : (num : Int) ≤ 18446744073709551615) (ha : Word a) (hbb : Word b) :
    Calls Tryd.prog 22 #[.pointer (some ⟨gs, 0, none⟩), .agg #[.int .i64 5, .string NM, .int .i64 (F : Int), .int .i64 (C : Int), .int .i64 (TK : Int), .int .u64 (num : Int), .int .i64 (bh : Int)], .int .u64 a, .int .u64 b, .agg #[.slice fa fn fc, .slice pa pn pc, .int .u64 ht]] w (LayPost gs base (doE l (laysR 5 num fs ps ht a b)) (doL l (laysR 5 num fs ps ht a b)) w) := by
  have HK := Lib.hid (fun oA oB => amount2 (w := w) (mulV a b) (mulE a b) oA oB HS hb hl)
  have HM := Lib.hid (fun W => mul_any a b W ha hbb)
  have e1 : laysR 5 num fs ps ht a b = (mulE a b, [mulV a b]) := rfl
  rw [e1]
  clear e1
  clear HF HP hfn hpn hnum ha hbb
  go_enter Tryd.func22, Tryd.ntmps22
  go_wp2_with fail
  refine (HM.out _).mono ?_
  rintro e w1 ⟨rfl, rfl⟩
  go_wp2_with fail
  refine (HK.out _ _).mono ?_
  rintro e w' ⟨rfl, hs, hT⟩
  have H := Lib.hid (And.intro hs hT)
  clear hs hT HK
  go_wp2
  go_ret
  exact ⟨rfl, H.out⟩

set_option maxRecDepth 100000 in
set_option maxHeartbeats 4000000 in
theorem do_6 (gs base num bh : Nat) (NM : ByteArray) (F C TK : Nat) (fa : Option Addr) (fn fc : Nat) (pa : Option Addr) (pn pc : Nat) (ht a b : Int) (fs : List Int) (ps : List Bool) (l : List Int) (w : World) (HS : Hid (Stk w gs base l)) (hb : base ≤ gs) (hl : l.length ≤ 32) (HF : Hid (FRow w fa fn fs)) (HP : Hid (BRow w pa pn ps)) (hfn : fn ≤ 1000000) (hpn : pn ≤ 1000000) (hnum : (num : Int) ≤ 18446744073709551615) (ha : Word a) (hbb : Word b) :
    Calls Tryd.prog 22 #[.pointer (some ⟨gs, 0, none⟩), .agg #[.int .i64 6, .string NM, .int .i64 (F : Int), .int .i64 (C : Int), .int .i64 (TK : Int), .int .u64 (num : Int), .int .i64 (bh : Int)], .int .u64 a, .int .u64 b, .agg #[.slice fa fn fc, .slice pa pn pc, .int .u64 ht]] w (LayPost gs base (doE l (laysR 6 num fs ps ht a b)) (doL l (laysR 6 num fs ps ht a b)) w) := by
  have HK := Lib.hid (fun oA oB => truth2 (w := w) (decide (a < b)) oA oB HS hb hl)
  have e1 : doE l (laysR 6 num fs ps ht a b) = layE l [one01 (decide (a < b))] := rfl
  have e2 : doL l (laysR 6 num fs ps ht a b) = layL l [one01 (decide (a < b))] := rfl
  rw [e1, e2]
  clear e1 e2
  clear HF HP hfn hpn hnum ha hbb
  go_enter Tryd.func22, Tryd.ntmps22
  go_wp2_with fail
  refine (HK.out _ _).mono ?_
  rintro e w' ⟨rfl, hs, hT⟩
  have H := Lib.hid (And.intro hs hT)
  clear hs hT HK
  go_wp2
  go_ret
  exact ⟨rfl, H.out⟩

set_option maxRecDepth 100000 in
set_option maxHeartbeats 4000000 in
theorem do_7 (gs base num bh : Nat) (NM : ByteArray) (F C TK : Nat) (fa : Option Addr) (fn fc : Nat) (pa : Option Addr) (pn pc : Nat) (ht a b : Int) (fs : List Int) (ps : List Bool) (l : List Int) (w : World) (HS : Hid (Stk w gs base l)) (hb : base ≤ gs) (hl : l.length ≤ 32) (HF : Hid (FRow w fa fn fs)) (HP : Hid (BRow w pa pn ps)) (hfn : fn ≤ 1000000) (hpn : pn ≤ 1000000) (hnum : (num : Int) ≤ 18446744073709551615) (ha : Word a) (hbb : Word b) :
    Calls Tryd.prog 22 #[.pointer (some ⟨gs, 0, none⟩), .agg #[.int .i64 7, .string NM, .int .i64 (F : Int), .int .i64 (C : Int), .int .i64 (TK : Int), .int .u64 (num : Int), .int .i64 (bh : Int)], .int .u64 a, .int .u64 b, .agg #[.slice fa fn fc, .slice pa pn pc, .int .u64 ht]] w (LayPost gs base (doE l (laysR 7 num fs ps ht a b)) (doL l (laysR 7 num fs ps ht a b)) w) := by
  have HK := Lib.hid (fun oA oB => truth2 (w := w) (decide (a = b)) oA oB HS hb hl)
  have e1 : doE l (laysR 7 num fs ps ht a b) = layE l [one01 (decide (a = b))] := rfl
  have e2 : doL l (laysR 7 num fs ps ht a b) = layL l [one01 (decide (a = b))] := rfl
  rw [e1, e2]
  clear e1 e2
  clear HF HP hfn hpn hnum ha hbb
  go_enter Tryd.func22, Tryd.ntmps22
  go_wp2_with fail
  refine (HK.out _ _).mono ?_
  rintro e w' ⟨rfl, hs, hT⟩
  have H := Lib.hid (And.intro hs hT)
  clear hs hT HK
  go_wp2
  go_ret
  exact ⟨rfl, H.out⟩

set_option maxRecDepth 100000 in
set_option maxHeartbeats 4000000 in
theorem do_8 (gs base num bh : Nat) (NM : ByteArray) (F C TK : Nat) (fa : Option Addr) (fn fc : Nat) (pa : Option Addr) (pn pc : Nat) (ht a b : Int) (fs : List Int) (ps : List Bool) (l : List Int) (w : World) (HS : Hid (Stk w gs base l)) (hb : base ≤ gs) (hl : l.length ≤ 32) (HF : Hid (FRow w fa fn fs)) (HP : Hid (BRow w pa pn ps)) (hfn : fn ≤ 1000000) (hpn : pn ≤ 1000000) (hnum : (num : Int) ≤ 18446744073709551615) (ha : Word a) (hbb : Word b) :
    Calls Tryd.prog 22 #[.pointer (some ⟨gs, 0, none⟩), .agg #[.int .i64 8, .string NM, .int .i64 (F : Int), .int .i64 (C : Int), .int .i64 (TK : Int), .int .u64 (num : Int), .int .i64 (bh : Int)], .int .u64 a, .int .u64 b, .agg #[.slice fa fn fc, .slice pa pn pc, .int .u64 ht]] w (LayPost gs base (doE l (laysR 8 num fs ps ht a b)) (doL l (laysR 8 num fs ps ht a b)) w) := by
  have HK := Lib.hid (fun oA oB => truth2 (w := w) (decide (a = 0)) oA oB HS hb hl)
  have e1 : doE l (laysR 8 num fs ps ht a b) = layE l [one01 (decide (a = 0))] := rfl
  have e2 : doL l (laysR 8 num fs ps ht a b) = layL l [one01 (decide (a = 0))] := rfl
  rw [e1, e2]
  clear e1 e2
  clear HF HP hfn hpn hnum ha hbb
  go_enter Tryd.func22, Tryd.ntmps22
  go_wp2_with fail
  refine (HK.out _ _).mono ?_
  rintro e w' ⟨rfl, hs, hT⟩
  have H := Lib.hid (And.intro hs hT)
  clear hs hT HK
  go_wp2
  go_ret
  exact ⟨rfl, H.out⟩

set_option maxRecDepth 100000 in
set_option maxHeartbeats 4000000 in
theorem do_9 (gs base num bh : Nat) (NM : ByteArray) (F C TK : Nat) (fa : Option Addr) (fn fc : Nat) (pa : Option Addr) (pn pc : Nat) (ht a b : Int) (fs : List Int) (ps : List Bool) (l : List Int) (w : World) (HS : Hid (Stk w gs base l)) (hb : base ≤ gs) (hl : l.length ≤ 32) (HF : Hid (FRow w fa fn fs)) (HP : Hid (BRow w pa pn ps)) (hfn : fn ≤ 1000000) (hpn : pn ≤ 1000000) (hnum : (num : Int) ≤ 18446744073709551615) (ha : Word a) (hbb : Word b) :
    Calls Tryd.prog 22 #[.pointer (some ⟨gs, 0, none⟩), .agg #[.int .i64 9, .string NM, .int .i64 (F : Int), .int .i64 (C : Int), .int .i64 (TK : Int), .int .u64 (num : Int), .int .i64 (bh : Int)], .int .u64 a, .int .u64 b, .agg #[.slice fa fn fc, .slice pa pn pc, .int .u64 ht]] w (LayPost gs base (doE l (laysR 9 num fs ps ht a b)) (doL l (laysR 9 num fs ps ht a b)) w) := by
  have HK := Lib.hid (fun q oA oB => truth2 (w := w) q oA oB HS hb hl)
  have e1 : doE l (laysR 9 num fs ps ht a b) = layE l [one01 (decide (a ≠ 0) && decide (b ≠ 0))] := rfl
  have e2 : doL l (laysR 9 num fs ps ht a b) = layL l [one01 (decide (a ≠ 0) && decide (b ≠ 0))] := rfl
  rw [e1, e2]
  clear e1 e2
  clear HF HP hfn hpn hnum ha hbb
  by_cases h1 : a = 0
  · subst h1
    by_cases h2 : b = 0
    · subst h2
      rw [show (decide ((0 : Int) ≠ 0) && decide ((0 : Int) ≠ 0)) = false from rfl]
      go_enter Tryd.func22, Tryd.ntmps22
      go_wp2_with fail
      refine (HK.out _ _ _).mono ?_
      rintro e w' ⟨rfl, hs, hT⟩
      have H := Lib.hid (And.intro hs hT)
      clear hs hT HK
      go_wp2
      go_ret
      exact ⟨rfl, H.out⟩
    · rw [show (decide ((0 : Int) ≠ 0) && decide (b ≠ 0)) = false by simp [h2]]
      have n2 : (b != 0) = true := by simp [h2]
      go_enter Tryd.func22, Tryd.ntmps22
      go_wp2_with fail
      refine (HK.out _ _ _).mono ?_
      rintro e w' ⟨rfl, hs, hT⟩
      have H := Lib.hid (And.intro hs hT)
      clear hs hT HK
      go_wp2
      go_ret
      exact ⟨rfl, H.out⟩
  · by_cases h2 : b = 0
    · subst h2
      rw [show (decide (a ≠ 0) && decide ((0 : Int) ≠ 0)) = false by simp [h1]]
      have n1 : (a != 0) = true := by simp [h1]
      go_enter Tryd.func22, Tryd.ntmps22
      go_wp2_with fail
      refine (HK.out _ _ _).mono ?_
      rintro e w' ⟨rfl, hs, hT⟩
      have H := Lib.hid (And.intro hs hT)
      clear hs hT HK
      go_wp2
      go_ret
      exact ⟨rfl, H.out⟩
    · rw [show (decide (a ≠ 0) && decide (b ≠ 0)) = true by simp [h1, h2]]
      have n1 : (a != 0) = true := by simp [h1]
      have n2 : (b != 0) = true := by simp [h2]
      go_enter Tryd.func22, Tryd.ntmps22
      go_wp2_with fail
      refine (HK.out _ _ _).mono ?_
      rintro e w' ⟨rfl, hs, hT⟩
      have H := Lib.hid (And.intro hs hT)
      clear hs hT HK
      go_wp2
      go_ret
      exact ⟨rfl, H.out⟩

set_option maxRecDepth 100000 in
set_option maxHeartbeats 4000000 in
theorem do_10 (gs base num bh : Nat) (NM : ByteArray) (F C TK : Nat) (fa : Option Addr) (fn fc : Nat) (pa : Option Addr) (pn pc : Nat) (ht a b : Int) (fs : List Int) (ps : List Bool) (l : List Int) (w : World) (HS : Hid (Stk w gs base l)) (hb : base ≤ gs) (hl : l.length ≤ 32) (HF : Hid (FRow w fa fn fs)) (HP : Hid (BRow w pa pn ps)) (hfn : fn ≤ 1000000) (hpn : pn ≤ 1000000) (hnum : (num : Int) ≤ 18446744073709551615) (ha : Word a) (hbb : Word b) :
    Calls Tryd.prog 22 #[.pointer (some ⟨gs, 0, none⟩), .agg #[.int .i64 10, .string NM, .int .i64 (F : Int), .int .i64 (C : Int), .int .i64 (TK : Int), .int .u64 (num : Int), .int .i64 (bh : Int)], .int .u64 a, .int .u64 b, .agg #[.slice fa fn fc, .slice pa pn pc, .int .u64 ht]] w (LayPost gs base (doE l (laysR 10 num fs ps ht a b)) (doL l (laysR 10 num fs ps ht a b)) w) := by
  have HK := Lib.hid (fun q oA oB => truth2 (w := w) q oA oB HS hb hl)
  have e1 : doE l (laysR 10 num fs ps ht a b) = layE l [one01 (decide (a ≠ 0) || decide (b ≠ 0))] := rfl
  have e2 : doL l (laysR 10 num fs ps ht a b) = layL l [one01 (decide (a ≠ 0) || decide (b ≠ 0))] := rfl
  rw [e1, e2]
  clear e1 e2
  clear HF HP hfn hpn hnum ha hbb
  by_cases h1 : a = 0
  · subst h1
    by_cases h2 : b = 0
    · subst h2
      rw [show (decide ((0 : Int) ≠ 0) || decide ((0 : Int) ≠ 0)) = false from rfl]
      go_enter Tryd.func22, Tryd.ntmps22
      go_wp2_with fail
      refine (HK.out _ _ _).mono ?_
      rintro e w' ⟨rfl, hs, hT⟩
      have H := Lib.hid (And.intro hs hT)
      clear hs hT HK
      go_wp2
      go_ret
      exact ⟨rfl, H.out⟩
    · rw [show (decide ((0 : Int) ≠ 0) || decide (b ≠ 0)) = true by simp [h2]]
      have n2 : (b != 0) = true := by simp [h2]
      go_enter Tryd.func22, Tryd.ntmps22
      go_wp2_with fail
      refine (HK.out _ _ _).mono ?_
      rintro e w' ⟨rfl, hs, hT⟩
      have H := Lib.hid (And.intro hs hT)
      clear hs hT HK
      go_wp2
      go_ret
      exact ⟨rfl, H.out⟩
  · by_cases h2 : b = 0
    · subst h2
      rw [show (decide (a ≠ 0) || decide ((0 : Int) ≠ 0)) = true by simp [h1]]
      have n1 : (a != 0) = true := by simp [h1]
      go_enter Tryd.func22, Tryd.ntmps22
      go_wp2_with fail
      refine (HK.out _ _ _).mono ?_
      rintro e w' ⟨rfl, hs, hT⟩
      have H := Lib.hid (And.intro hs hT)
      clear hs hT HK
      go_wp2
      go_ret
      exact ⟨rfl, H.out⟩
    · rw [show (decide (a ≠ 0) || decide (b ≠ 0)) = true by simp [h1, h2]]
      have n1 : (a != 0) = true := by simp [h1]
      have n2 : (b != 0) = true := by simp [h2]
      go_enter Tryd.func22, Tryd.ntmps22
      go_wp2_with fail
      refine (HK.out _ _ _).mono ?_
      rintro e w' ⟨rfl, hs, hT⟩
      have H := Lib.hid (And.intro hs hT)
      clear hs hT HK
      go_wp2
      go_ret
      exact ⟨rfl, H.out⟩

set_option maxRecDepth 100000 in
set_option maxHeartbeats 4000000 in
theorem do_2 (gs base num bh : Nat) (NM : ByteArray) (F C TK : Nat) (fa : Option Addr) (fn fc : Nat) (pa : Option Addr) (pn pc : Nat) (ht a b : Int) (fs : List Int) (ps : List Bool) (l : List Int) (w : World) (HS : Hid (Stk w gs base l)) (hb : base ≤ gs) (hl : l.length ≤ 32) (HF : Hid (FRow w fa fn fs)) (HP : Hid (BRow w pa pn ps)) (hfn : fn ≤ 1000000) (hpn : pn ≤ 1000000) (hnum : (num : Int) ≤ 18446744073709551615) (ha : Word a) (hbb : Word b) :
    Calls Tryd.prog 22 #[.pointer (some ⟨gs, 0, none⟩), .agg #[.int .i64 2, .string NM, .int .i64 (F : Int), .int .i64 (C : Int), .int .i64 (TK : Int), .int .u64 (num : Int), .int .i64 (bh : Int)], .int .u64 a, .int .u64 b, .agg #[.slice fa fn fc, .slice pa pn pc, .int .u64 ht]] w (LayPost gs base (doE l (laysR 2 num fs ps ht a b)) (doL l (laysR 2 num fs ps ht a b)) w) := by
  have hlen := HF.out.len
  have hn0 : (0 : Int) ≤ (num : Int) := Int.natCast_nonneg _
  by_cases h : fn ≤ num
  · have e0 : laysR 2 num fs ps ht a b = (1, []) := by
      show (if fs.length ≤ num then _ else _) = _
      rw [if_pos (by omega)]
    rw [e0]
    have e1 : doE l ((1 : Int), ([] : List Int)) = 1 := rfl
    have e2 : doL l ((1 : Int), ([] : List Int)) = l := rfl
    rw [e1, e2]
    have hI : (fn : Int) ≤ (num : Int) := by omega
    have d1 : decide ((fn : Int) ≤ (num : Int)) = true := decide_eq_true hI
    have hs := fun oA oB => And.intro (HS.out.below (up2 oA oB)) (Turn.new (Nat.le_trans hb (Nat.le_of_lt HS.out.lt)) (up2 oA oB))
    have HK := Lib.hid hs
    clear HF HP ha hbb e0 e1 e2 hs h hlen
    go_enter Tryd.func22, Tryd.ntmps22
    go_wp2
    go_ret
    exact ⟨rfl, HK.out _ _⟩
  · obtain ⟨fb, fo, hA, hfb, hcell⟩ := HF.out.at_ num (by omega)
    subst hA
    obtain ⟨x, hx⟩ : ∃ x, fs.getD num 0 = x := ⟨_, rfl⟩
    rw [hx] at hcell
    have e0 : laysR 2 num fs ps ht a b = (0, [x]) := by
      show (if fs.length ≤ num then _ else _) = _
      rw [if_neg (by omega), hx]
    rw [e0]
    have e1 : doE l ((0 : Int), [x]) = layE l [x] := rfl
    have e2 : doL l ((0 : Int), [x]) = layL l [x] := rfl
    rw [e1, e2]
    have HK := Lib.hid (fun oA oB => lay3 (w := w) 1 [x] oA oB HS hb rfl hl (by omega))
    have hc := fun oA oB => ((up2 (w := w) oA oB).cell (p := ⟨fb, fo + num, none⟩) hfb).trans hcell
    have hI : (num : Int) < (fn : Int) := by omega
    have d1 : decide ((fn : Int) ≤ (num : Int)) = false := decide_eq_false (by omega)
    clear HF HP ha hbb e0 e1 e2 hx hcell hlen
    go_enter Tryd.func22, Tryd.ntmps22
    go_wp2_with fail
    refine (HK.out _ _).mono ?_
    rintro e w' ⟨rfl, hs, hT⟩
    have H := Lib.hid (And.intro hs hT)
    clear hs hT HK
    go_wp2
    go_ret
    exact ⟨rfl, H.out⟩

set_option maxRecDepth 100000 in
set_option maxHeartbeats 4000000 in
theorem do_16 (gs base num bh : Nat) (NM : ByteArray) (F C TK : Nat) (fa : Option Addr) (fn fc : Nat) (pa : Option Addr) (pn pc : Nat) (ht a b : Int) (fs : List Int) (ps : List Bool) (l : List Int) (w : World) (HS : Hid (Stk w gs base l)) (hb : base ≤ gs) (hl : l.length ≤ 32) (HF : Hid (FRow w fa fn fs)) (HP : Hid (BRow w pa pn ps)) (hfn : fn ≤ 1000000) (hpn : pn ≤ 1000000) (hnum : (num : Int) ≤ 18446744073709551615) (ha : Word a) (hbb : Word b) :
    Calls Tryd.prog 22 #[.pointer (some ⟨gs, 0, none⟩), .agg #[.int .i64 16, .string NM, .int .i64 (F : Int), .int .i64 (C : Int), .int .i64 (TK : Int), .int .u64 (num : Int), .int .i64 (bh : Int)], .int .u64 a, .int .u64 b, .agg #[.slice fa fn fc, .slice pa pn pc, .int .u64 ht]] w (LayPost gs base (doE l (laysR 16 num fs ps ht a b)) (doL l (laysR 16 num fs ps ht a b)) w) := by
  have hlen := HP.out.len
  have hn0 : (0 : Int) ≤ (num : Int) := Int.natCast_nonneg _
  by_cases h : pn ≤ num
  · have e0 : laysR 16 num fs ps ht a b = (1, []) := by
      show (if ps.length ≤ num then _ else _) = _
      rw [if_pos (by omega)]
    rw [e0]
    have e1 : doE l ((1 : Int), ([] : List Int)) = 1 := rfl
    have e2 : doL l ((1 : Int), ([] : List Int)) = l := rfl
    rw [e1, e2]
    have hI : (pn : Int) ≤ (num : Int) := by omega
    have d1 : decide ((pn : Int) ≤ (num : Int)) = true := decide_eq_true hI
    have hs := fun oA oB => And.intro (HS.out.below (up2 oA oB)) (Turn.new (Nat.le_trans hb (Nat.le_of_lt HS.out.lt)) (up2 oA oB))
    have HK := Lib.hid hs
    clear HF HP ha hbb e0 e1 e2 hs h hlen
    go_enter Tryd.func22, Tryd.ntmps22
    go_wp2
    go_ret
    exact ⟨rfl, HK.out _ _⟩
  · obtain ⟨fb, fo, hA, hfb, hcell⟩ := HP.out.at_ num (by omega)
    subst hA
    obtain ⟨x, hx⟩ : ∃ x, ps.getD num false = x := ⟨_, rfl⟩
    rw [hx] at hcell
    have e0 : laysR 16 num fs ps ht a b = (0, [one01 x]) := by
      show (if ps.length ≤ num then _ else _) = _
      rw [if_neg (by omega), hx]
    rw [e0]
    have e1 : doE l ((0 : Int), [one01 x]) = layE l [one01 x] := rfl
    have e2 : doL l ((0 : Int), [one01 x]) = layL l [one01 x] := rfl
    rw [e1, e2]
    have HK := Lib.hid (fun oA oB => truth2 (w := w) x oA oB HS hb hl)
    have hc := fun oA oB => ((up2 (w := w) oA oB).cell (p := ⟨fb, fo + num, none⟩) hfb).trans hcell
    have hI : (num : Int) < (pn : Int) := by omega
    have d1 : decide ((pn : Int) ≤ (num : Int)) = false := decide_eq_false (by omega)
    clear HF HP ha hbb e0 e1 e2 hx hcell hlen
    go_enter Tryd.func22, Tryd.ntmps22
    go_wp2_with fail
    refine (HK.out _ _).mono ?_
    rintro e w' ⟨rfl, hs, hT⟩
    have H := Lib.hid (And.intro hs hT)
    clear hs hT HK
    go_wp2
    go_ret
    exact ⟨rfl, H.out⟩

set_option maxRecDepth 100000 in
set_option maxHeartbeats 4000000 in
theorem do_11 (gs base num bh : Nat) (NM : ByteArray) (F C TK : Nat) (fa : Option Addr) (fn fc : Nat) (pa : Option Addr) (pn pc : Nat) (ht a b : Int) (fs : List Int) (ps : List Bool) (l : List Int) (w : World) (HS : Hid (Stk w gs base l)) (hb : base ≤ gs) (hl : l.length ≤ 32) (HF : Hid (FRow w fa fn fs)) (HP : Hid (BRow w pa pn ps)) (hfn : fn ≤ 1000000) (hpn : pn ≤ 1000000) (hnum : (num : Int) ≤ 18446744073709551615) (ha : Word a) (hbb : Word b) :
    Calls Tryd.prog 22 #[.pointer (some ⟨gs, 0, none⟩), .agg #[.int .i64 11, .string NM, .int .i64 (F : Int), .int .i64 (C : Int), .int .i64 (TK : Int), .int .u64 (num : Int), .int .i64 (bh : Int)], .int .u64 a, .int .u64 b, .agg #[.slice fa fn fc, .slice pa pn pc, .int .u64 ht]] w (LayPost gs base (doE l (laysR 11 num fs ps ht a b)) (doL l (laysR 11 num fs ps ht a b)) w) := by
  have e1 : doE l (laysR 11 num fs ps ht a b) = 0 := by
    have : doE l (laysR 11 num fs ps ht a b) = layE l [] := rfl
    rw [this]; unfold layE; rw [if_neg (by simp; omega)]
  have e2 : doL l (laysR 11 num fs ps ht a b) = l := by
    have : doL l (laysR 11 num fs ps ht a b) = layL l [] := rfl
    rw [this]; unfold layL; rw [if_neg (by simp; omega), List.append_nil]
  rw [e1, e2]
  have hs := fun oA oB => And.intro (HS.out.below (up2 oA oB)) (Turn.new (Nat.le_trans hb (Nat.le_of_lt HS.out.lt)) (up2 oA oB))
  have HK := Lib.hid hs
  clear e1 e2 hs
  clear HF HP hfn hpn hnum ha hbb
  go_enter Tryd.func22, Tryd.ntmps22
  go_wp2
  go_ret
  exact ⟨rfl, HK.out _ _⟩

set_option maxRecDepth 100000 in
set_option maxHeartbeats 4000000 in
theorem do_12 (gs base num bh : Nat) (NM : ByteArray) (F C TK : Nat) (fa : Option Addr) (fn fc : Nat) (pa : Option Addr) (pn pc : Nat) (ht a b : Int) (fs : List Int) (ps : List Bool) (l : List Int) (w : World) (HS : Hid (Stk w gs base l)) (hb : base ≤ gs) (hl : l.length ≤ 32) (HF : Hid (FRow w fa fn fs)) (HP : Hid (BRow w pa pn ps)) (hfn : fn ≤ 1000000) (hpn : pn ≤ 1000000) (hnum : (num : Int) ≤ 18446744073709551615) (ha : Word a) (hbb : Word b) :
    Calls Tryd.prog 22 #[.pointer (some ⟨gs, 0, none⟩), .agg #[.int .i64 12, .string NM, .int .i64 (F : Int), .int .i64 (C : Int), .int .i64 (TK : Int), .int .u64 (num : Int), .int .i64 (bh : Int)], .int .u64 a, .int .u64 b, .agg #[.slice fa fn fc, .slice pa pn pc, .int .u64 ht]] w (LayPost gs base (doE l (laysR 12 num fs ps ht a b)) (doL l (laysR 12 num fs ps ht a b)) w) := by
  have e1 : doE l (laysR 12 num fs ps ht a b) = 0 := by
    have : doE l (laysR 12 num fs ps ht a b) = layE l [] := rfl
    rw [this]; unfold layE; rw [if_neg (by simp; omega)]
  have e2 : doL l (laysR 12 num fs ps ht a b) = l := by
    have : doL l (laysR 12 num fs ps ht a b) = layL l [] := rfl
    rw [this]; unfold layL; rw [if_neg (by simp; omega), List.append_nil]
  rw [e1, e2]
  have hs := fun oA oB => And.intro (HS.out.below (up2 oA oB)) (Turn.new (Nat.le_trans hb (Nat.le_of_lt HS.out.lt)) (up2 oA oB))
  have HK := Lib.hid hs
  clear e1 e2 hs
  clear HF HP hfn hpn hnum ha hbb
  go_enter Tryd.func22, Tryd.ntmps22
  go_wp2
  go_ret
  exact ⟨rfl, HK.out _ _⟩

set_option maxRecDepth 100000 in
set_option maxHeartbeats 4000000 in
theorem do_15 (gs base num bh : Nat) (NM : ByteArray) (F C TK : Nat) (fa : Option Addr) (fn fc : Nat) (pa : Option Addr) (pn pc : Nat) (ht a b : Int) (fs : List Int) (ps : List Bool) (l : List Int) (w : World) (HS : Hid (Stk w gs base l)) (hb : base ≤ gs) (hl : l.length ≤ 32) (HF : Hid (FRow w fa fn fs)) (HP : Hid (BRow w pa pn ps)) (hfn : fn ≤ 1000000) (hpn : pn ≤ 1000000) (hnum : (num : Int) ≤ 18446744073709551615) (ha : Word a) (hbb : Word b) :
    Calls Tryd.prog 22 #[.pointer (some ⟨gs, 0, none⟩), .agg #[.int .i64 15, .string NM, .int .i64 (F : Int), .int .i64 (C : Int), .int .i64 (TK : Int), .int .u64 (num : Int), .int .i64 (bh : Int)], .int .u64 a, .int .u64 b, .agg #[.slice fa fn fc, .slice pa pn pc, .int .u64 ht]] w (LayPost gs base (doE l (laysR 15 num fs ps ht a b)) (doL l (laysR 15 num fs ps ht a b)) w) := by
  have e1 : doE l (laysR 15 num fs ps ht a b) = 0 := by
    have : doE l (laysR 15 num fs ps ht a b) = layE l [] := rfl
    rw [this]; unfold layE; rw [if_neg (by simp; omega)]
  have e2 : doL l (laysR 15 num fs ps ht a b) = l := by
    have : doL l (laysR 15 num fs ps ht a b) = layL l [] := rfl
    rw [this]; unfold layL; rw [if_neg (by simp; omega), List.append_nil]
  rw [e1, e2]
  have hs := fun oA oB => And.intro (HS.out.below (up2 oA oB)) (Turn.new (Nat.le_trans hb (Nat.le_of_lt HS.out.lt)) (up2 oA oB))
  have HK := Lib.hid hs
  clear e1 e2 hs
  clear HF HP hfn hpn hnum ha hbb
  go_enter Tryd.func22, Tryd.ntmps22
  go_wp2
  go_ret
  exact ⟨rfl, HK.out _ _⟩
end Go.Proofs.YtkilajobnlagbaaDoor
