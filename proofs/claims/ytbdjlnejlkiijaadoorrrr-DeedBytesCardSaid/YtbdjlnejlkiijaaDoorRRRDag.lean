/-
  A region that draws its order, walked once an operation: an invariant over which operations have come up.
-/
import Derived.OrdersHeld
import Derived.Deep.RegionHeld
namespace Go.Proofs.YtbdjlnejlkiijaaDoorRRR.Dag
open Go
/-- Kept from the walk's rules. -/
structure Hid9 (p : Prop) : Prop where
  out : p
section
variable {P : Program} {ops : Array Oper} {Q : Exit → Act → World → Prop} {md : Region.Mode}

/-- Each operation of a list, from a number on. -/
inductive Each (R : Nat → Oper → Prop) : Nat → List Oper → Prop
  | nil (k : Nat) : Each R k []
  | cons {k : Nat} {o : Oper} {l : List Oper} (h : R k o) (t : Each R (k + 1) l) : Each R k (o :: l)
theorem Each.get {R : Nat → Oper → Prop} : ∀ {l : List Oper} {k : Nat}, Each R k l → ∀ (i : Nat) (o : Oper), l[i]? = some o → R (k + i) o
  | _, _, .nil _, i, o, h => by simp at h
  | _, k, .cons h t, 0, o, ho => by
    simp at ho
    subst ho
    exact h
  | _, k, .cons h t, i + 1, o, ho => by
    have := t.get i o (by simpa using ho)
    rw [show k + (i + 1) = k + 1 + i by omega]
    exact this

theorem count_set : ∀ (l : List Bool) (i : Nat), l[i]? = some false → (l.set i true).count false + 1 = l.count false
  | [], i, h => by simp at h
  | b :: l, 0, h => by
    simp at h
    subst h
    simp
  | b :: l, i + 1, h => by
    have ih := count_set l i (by simpa using h)
    rw [List.set_cons_succ, List.count_cons, List.count_cons]
    omega
theorem getD_false {L : Array Bool} {i : Nat} (h : L.getD i true = false) : L.toList[i]? = some false := by
  rw [Array.getD_eq_getD_getElem?] at h
  cases hx : L[i]? with
  | none => rw [hx] at h; simp at h
  | some b =>
    rw [hx] at h
    simp at h
    subst h
    simpa using hx
/-- All that an operation waits for lies ahead of it. -/
def lowB (md : Region.Mode) (ops : Array Oper) : Bool := (List.range ops.size).all fun i => (ops.getD i default).after.all fun e => !Region.binds md e || decide (e.on < i)
theorem all_listed {L : Array Bool} (hlow : lowB md ops = true) (hr : Region.ready md ops L = []) (hsz : L.size = ops.size) : ∀ i, i < ops.size → L.getD i false = true := by
  intro i
  induction i using Nat.strongRecOn with
  | ind i ih =>
    intro hi
    refine Classical.byContradiction fun hn => ?_
    have hi2 : i < L.size := by omega
    have hf : L.getD i true = false := by
      simp [Array.getD, hi2] at hn ⊢
      exact hn
    have hm : i ∈ Region.ready md ops L := mem_ready.2 ⟨hf, ops[i], by simp [hi], fun e he hb => by
      have h1 := List.all_eq_true.1 hlow i (List.mem_range.2 hi)
      rw [Array.getD_eq_getD_getElem?, Array.getElem?_eq_getElem hi, Option.getD_some] at h1
      have h2 := Array.all_eq_true_iff_forall_mem.1 h1 e he
      rw [hb] at h2
      have h3 : e.on < i := by simpa using h2
      exact ih e.on h3 (by omega)⟩
    rw [hr] at hm
    cases hm
/-- What an operation owes: it leads from the invariant to the invariant. -/
def Owes (P : Program) (md : Region.Mode) (ops : Array Oper) (Q : Exit → Act → World → Prop) (I : Array Bool → Act → World → Prop) (i : Nat) (o : Oper) : Prop :=
  ∀ (L : Array Bool) (a : Act) (w : World), L.size = ops.size → L.getD i true = false → (∀ e ∈ o.after, Region.binds md e = true → L.getD e.on false = true) → I L a w →
    ∀ K : Act → World → Prop, Hid9 (∀ a' w', I (L.setIfInBounds i true) a' w' → K a' w') → if Region.wanted o (yielded ops a.tmps) = true then Oper.wp P o a w K Q else K (a.put o.dst undef) w
theorem wpAny_inv (I : Array Bool → Act → World → Prop) (hlow : lowB md ops = true) (hs : Each (Owes P md ops Q I) 0 ops.toList)
    (he : ∀ (L : Array Bool) (a : Act) (w : World), L.size = ops.size → (∀ i, i < ops.size → L.getD i false = true) → I L a w → Q .normal a w) :
    ∀ (fuel : Nat) (L : Array Bool) (a : Act) (w : World), L.size = ops.size → L.toList.count false ≤ fuel → I L a w → wpAny P md ops Q fuel L a w
  | 0, L, a, w, hsz, hc, hI => by
    have hr : Region.ready md ops L = [] := by
      refine List.eq_nil_iff_forall_not_mem.2 fun i hi => ?_
      have h1 := getD_false (mem_ready.1 hi).1
      have h2 : false ∈ L.toList := List.mem_of_getElem? h1
      have h3 := List.count_pos_iff.2 h2
      omega
    exact ⟨hr, he L a w hsz (all_listed hlow hr hsz) hI⟩
  | fuel + 1, L, a, w, hsz, hc, hI => by
    refine ⟨fun hr => he L a w hsz (all_listed hlow hr hsz) hI, fun i hi => ?_⟩
    obtain ⟨hf, o, ho, hd⟩ := mem_ready.1 hi
    have h1 := hs.get i o (by simpa using ho)
    rw [Nat.zero_add] at h1
    refine wpOp_step ho fun K hK => h1 L a w hsz hf hd hI K ⟨fun a' w' h' => hK a' w' ?_⟩
    refine wpAny_inv I hlow hs he fuel _ a' w' (by simpa using hsz) ?_ h'
    have h2 := count_set L.toList i (getD_false hf)
    rw [Array.toList_setIfInBounds]
    omega
theorem wp_region_inv {id : Nat} {a : Act} {w : World} (hm : P.follows .mixedOrders = true) (I : Array Bool → Act → World → Prop) (hlow : lowB .any ops = true)
    (h0 : I (Array.replicate ops.size false) a { w with drawn := w.drawn + 1 }) (hs : Each (Owes P .any ops Q I) 0 ops.toList)
    (he : ∀ (L : Array Bool) (a : Act) (w : World), L.size = ops.size → (∀ i, i < ops.size → L.getD i false = true) → I L a w → Q .normal a w) :
    (Code.region id ops true).wp P Q a w :=
  wp_region_any hm (wpAny_inv I hlow hs he ops.size _ a _ (by simp) (by simp) h0)
end

/-! ### Slots: which operation writes which -/
section
variable {P : Program} {ops : Array Oper} {Q : Exit → Act → World → Prop} {md : Region.Mode}
/-- Slots and the operations that write them: each slot once, all operations with a slot, within so many slots. -/
def okW (ops : Array Oper) (wl : List (Nat × Nat)) (n : Nat) : Bool :=
  (wl.all fun p => ((ops[p.2]?).bind (·.dst)) == some p.1 && decide (p.1 < n)) && decide (wl.map (·.1)).Nodup &&
    (List.range ops.size).all fun i => match (ops[i]?).bind (·.dst) with | some d => wl.contains (d, i) | none => true
def fullA (T0 : Array Value) (wl : List (Nat × Nat)) (v : Nat → Value) : Array Value := wl.foldl (fun T p => T.setIfInBounds p.1 (v p.2)) T0
def upd (v : Nat → Value) (i : Nat) (u : Value) : Nat → Value := fun j => if j = i then u else v j
def setb (b : Nat → Bool) (i : Nat) : Nat → Bool := fun j => if j = i then true else b j
theorem upd_eq (v : Nat → Value) (i : Nat) (u : Value) : upd v i u i = u := if_pos rfl
theorem upd_ne (v : Nat → Value) {i j : Nat} (u : Value) (h : j ≠ i) : upd v i u j = v j := if_neg h
theorem setb_eq (b : Nat → Bool) (i : Nat) : setb b i i = true := if_pos rfl
theorem setb_ne (b : Nat → Bool) {i j : Nat} (h : j ≠ i) : setb b i j = b j := if_neg h
theorem getD_set_eq (T : Array Value) (d : Nat) (u : Value) (h : d < T.size) : (T.setIfInBounds d u).getD d undef = u := by
  simp [Array.getD, h]
theorem getD_set_ne' (T : Array Value) {d k : Nat} (u : Value) (h : d ≠ k) : (T.setIfInBounds d u).getD k undef = T.getD k undef := by
  rw [Array.getD_eq_getD_getElem?, Array.getD_eq_getD_getElem?, Array.getElem?_setIfInBounds_ne h]
theorem fullA_size (T0 : Array Value) (v : Nat → Value) : ∀ wl : List (Nat × Nat), (fullA T0 wl v).size = T0.size
  | [] => rfl
  | p :: wl => by
    have := fullA_size (T0.setIfInBounds p.1 (v p.2)) v wl
    rw [Array.size_setIfInBounds] at this
    exact this
theorem fullA_out (v : Nat → Value) : ∀ (wl : List (Nat × Nat)) (T0 : Array Value) (d : Nat), d ∉ wl.map (·.1) → (fullA T0 wl v).getD d undef = T0.getD d undef
  | [], _, _, _ => rfl
  | p :: wl, T0, d, h => by
    have h1 : d ≠ p.1 := fun e => h (by simp [e])
    have h2 : d ∉ wl.map (·.1) := fun e => h (List.mem_cons_of_mem _ e)
    exact (fullA_out v wl (T0.setIfInBounds p.1 (v p.2)) d h2).trans (getD_set_ne' _ _ (Ne.symm h1))
theorem fullA_in (v : Nat → Value) : ∀ (wl : List (Nat × Nat)) (T0 : Array Value) (d i : Nat), (wl.map (·.1)).Nodup → (d, i) ∈ wl → d < T0.size → (fullA T0 wl v).getD d undef = v i
  | [], _, _, _, _, h, _ => by cases h
  | p :: wl, T0, d, i, hn, h, hd => by
    rw [List.map_cons, List.nodup_cons] at hn
    rcases List.mem_cons.1 h with h | h
    · subst h
      exact (fullA_out v wl (T0.setIfInBounds d (v i)) d hn.1).trans (getD_set_eq _ _ _ hd)
    · exact fullA_in v wl (T0.setIfInBounds p.1 (v p.2)) d i hn.2 h (by rw [Array.size_setIfInBounds]; exact hd)
/-- What the slots hold: what has come up has its value, all else is as it was. -/
structure At (T0 : Array Value) (D : List Deferred) (wl : List (Nat × Nat)) (b : Nat → Bool) (v : Nat → Value) (a : Act) : Prop where
  defers : a.defers = D
  size : a.tmps.size = T0.size
  get : ∀ t j, (t, j) ∈ wl → b j = true → a.tmps.getD t undef = v j
  base : ∀ t, (∀ j, (t, j) ∈ wl → b j = false) → a.tmps.getD t undef = T0.getD t undef
theorem At.eval {T0 : Array Value} {D : List Deferred} {wl : List (Nat × Nat)} {b : Nat → Bool} {v : Nat → Value} {a : Act} (h : At T0 D wl b v a) (t j : Nat) (hw : wl.contains (t, j) = true) (hb : b j = true) : a.eval (.tmp t) = v j :=
  h.get t j (by simpa using hw) hb
theorem At.old {T0 : Array Value} {D : List Deferred} {wl : List (Nat × Nat)} {b : Nat → Bool} {v : Nat → Value} {a : Act} (h : At T0 D wl b v a) (t : Nat) (hw : (wl.all fun p => decide (p.1 ≠ t)) = true) : a.eval (.tmp t) = T0.getD t undef :=
  h.base t fun j hj => by
    have := List.all_eq_true.1 hw _ hj
    simp at this
theorem okW_dst {wl : List (Nat × Nat)} {n : Nat} (h : okW ops wl n = true) {d i : Nat} (hm : (d, i) ∈ wl) : (ops[i]?).bind (·.dst) = some d ∧ d < n := by
  unfold okW at h
  rw [Bool.and_eq_true, Bool.and_eq_true] at h
  have := List.all_eq_true.1 h.1.1 _ hm
  simp only [Bool.and_eq_true, beq_iff_eq, decide_eq_true_eq] at this
  exact this
theorem okW_nodup {wl : List (Nat × Nat)} {n : Nat} (h : okW ops wl n = true) : (wl.map (·.1)).Nodup := by
  unfold okW at h
  rw [Bool.and_eq_true, Bool.and_eq_true] at h
  exact of_decide_eq_true h.1.2
theorem okW_mem {wl : List (Nat × Nat)} {n : Nat} (h : okW ops wl n = true) {i d : Nat} {o : Oper} (ho : ops[i]? = some o) (hd : o.dst = some d) : (d, i) ∈ wl := by
  unfold okW at h
  rw [Bool.and_eq_true, Bool.and_eq_true] at h
  have hi : i < ops.size := (Array.getElem?_eq_some_iff.1 ho).1
  have := List.all_eq_true.1 h.2 i (List.mem_range.2 hi)
  rw [ho] at this
  simp only [Option.bind_some, hd] at this
  simpa using this
theorem nodup_fst : ∀ {wl : List (Nat × Nat)} {d i j : Nat}, (wl.map (·.1)).Nodup → (d, i) ∈ wl → (d, j) ∈ wl → i = j
  | [], _, _, _, _, h, _ => by cases h
  | p :: wl, d, i, j, hn, h1, h2 => by
    rw [List.map_cons, List.nodup_cons] at hn
    rcases List.mem_cons.1 h1 with h1 | h1
    · rcases List.mem_cons.1 h2 with h2 | h2
      · rw [← h1] at h2
        injection h2 with _ h2
        exact h2.symm
      · exact absurd (List.mem_map.2 ⟨_, h2, by rw [← h1]⟩) hn.1
    · rcases List.mem_cons.1 h2 with h2 | h2
      · exact absurd (List.mem_map.2 ⟨_, h1, by rw [← h2]⟩) hn.1
      · exact nodup_fst hn.2 h1 h2
theorem At.put {T0 : Array Value} {D : List Deferred} {wl : List (Nat × Nat)} {b : Nat → Bool} {v : Nat → Value} {a : Act} (hok : okW ops wl T0.size = true) {i d : Nat} {o : Oper} (ho : ops[i]? = some o) (hd : o.dst = some d) (h : At T0 D wl b v a) (u : Value) :
    At T0 D wl (setb b i) (upd v i u) (a.put o.dst u) := by
  have hm := okW_mem hok ho hd
  have hlt := (okW_dst hok hm).2
  have hn := okW_nodup hok
  rw [hd]
  refine ⟨h.defers, ?_, ?_, ?_⟩
  · show (a.tmps.setIfInBounds d u).size = _
    rw [Array.size_setIfInBounds]
    exact h.size
  · intro t j hj hb
    show (a.tmps.setIfInBounds d u).getD t undef = _
    by_cases hij : j = i
    · subst hij
      have h1 := (okW_dst hok hj).1
      rw [(okW_dst hok hm).1] at h1
      injection h1 with h1
      subst h1
      rw [upd_eq, getD_set_eq _ _ _ (by rw [h.size]; exact hlt)]
    · have hne : d ≠ t := fun e => by
        subst e
        exact hij (nodup_fst hn hj hm)
      rw [upd_ne _ _ hij, getD_set_ne' _ _ hne]
      rw [setb_ne _ hij] at hb
      exact h.get t j hj hb
  · intro t ht
    show (a.tmps.setIfInBounds d u).getD t undef = _
    have hne : d ≠ t := fun e => by
      subst e
      have := ht i hm
      rw [setb_eq] at this
      cases this
    rw [getD_set_ne' _ _ hne]
    refine h.base t fun j hj => ?_
    have h1 := ht j hj
    by_cases hij : j = i
    · subst hij
      rw [setb_eq] at h1
      cases h1
    · rw [setb_ne _ hij] at h1
      exact h1
theorem At.none {T0 : Array Value} {D : List Deferred} {wl : List (Nat × Nat)} {b : Nat → Bool} {v : Nat → Value} {a : Act} (hok : okW ops wl T0.size = true) {i : Nat} {o : Oper} (ho : ops[i]? = some o) (hd : o.dst = none) (h : At T0 D wl b v a) (u : Value) :
    At T0 D wl (setb b i) (upd v i u) (a.put o.dst u) := by
  rw [hd]
  have hnot : ∀ t j, (t, j) ∈ wl → j ≠ i := fun t j hj e => by
    subst e
    have := (okW_dst hok hj).1
    rw [ho] at this
    simp [hd] at this
  refine ⟨h.defers, h.size, ?_, ?_⟩
  · intro t j hj hb
    rw [upd_ne _ _ (hnot t j hj)]
    rw [setb_ne _ (hnot t j hj)] at hb
    exact h.get t j hj hb
  · intro t ht
    refine h.base t fun j hj => ?_
    have := ht j hj
    rwa [setb_ne _ (hnot t j hj)] at this
/-- Whether a guarded operation is wanted. -/
theorem At.guard {T0 : Array Value} {D : List Deferred} {wl : List (Nat × Nat)} {b : Nat → Bool} {v : Nat → Value} {a : Act} (hok : okW ops wl T0.size = true) (h : At T0 D wl b v a) {o : Oper} {g d : Nat} {want x : Bool} (hg : o.guard = some (g, want)) (hm : wl.contains (d, g) = true) (hb : b g = true) (hv : v g = .bool x) :
    Region.wanted o (yielded ops a.tmps) = (x == want) := by
  have hm : (d, g) ∈ wl := by simpa using hm
  have h1 := okW_dst hok hm
  have h2 := h.get d g hm hb
  have h3 : d < a.tmps.size := by rw [h.size]; exact h1.2
  have h4 : a.tmps[d]? = some (.bool x) := by
    rw [Array.getD_eq_getD_getElem?, hv] at h2
    cases hx : a.tmps[d]? with
    | none => rw [Array.getElem?_eq_none_iff] at hx; omega
    | some y => rw [hx] at h2; exact congrArg some h2
  simp only [Region.wanted, hg, yielded, h1.1, Option.bind_some, h4]
  cases x <;> cases want <;> rfl
/-- What an operation waits for has come up, if it has. -/
def Closed (md : Region.Mode) (ops : Array Oper) (b : Nat → Bool) : Prop := ∀ (k : Nat) (o : Oper), ops[k]? = some o → b k = true → ∀ e ∈ o.after, Region.binds md e = true → b e.on = true
theorem Closed.set {b : Nat → Bool} {i : Nat} {o : Oper} (h : Closed md ops b) (ho : ops[i]? = some o) (hd : ∀ e ∈ o.after, Region.binds md e = true → b e.on = true) : Closed md ops (setb b i) := by
  intro k o' hk hb e he hbi
  have : b e.on = true := by
    by_cases hki : k = i
    · subst hki
      rw [ho] at hk
      injection hk with hk
      subst hk
      exact hd e he hbi
    · rw [setb_ne _ hki] at hb
      exact h k o' hk hb e he hbi
  by_cases hei : e.on = i
  · rw [hei, setb_eq]
  · rw [setb_ne _ hei]; exact this
def bits (L : Array Bool) : Nat → Bool := fun j => L.getD j false
theorem bits_set {L : Array Bool} {i : Nat} (h : i < L.size) : bits (L.setIfInBounds i true) = setb (bits L) i := by
  funext j
  unfold bits setb
  by_cases hij : j = i
  · subst hij
    rw [if_pos rfl]
    simp [Array.getD, h]
  · rw [if_neg hij]
    show (L.setIfInBounds i true).getD j false = L.getD j false
    rw [Array.getD_eq_getD_getElem?, Array.getD_eq_getD_getElem?, Array.getElem?_setIfInBounds_ne (Ne.symm hij)]
/-- The invariant: what the slots hold, and what is so of them and of the world. -/
def Inv (md : Region.Mode) (ops : Array Oper) (T0 : Array Value) (D : List Deferred) (wl : List (Nat × Nat)) (G : (Nat → Bool) → (Nat → Value) → World → Prop) (L : Array Bool) (a : Act) (w : World) : Prop :=
  ∃ v, At T0 D wl (bits L) v a ∧ Closed md ops (bits L) ∧ G (bits L) v w
/-- What an operation owes, in the invariant's words. -/
def Step (P : Program) (md : Region.Mode) (ops : Array Oper) (Q : Exit → Act → World → Prop) (T0 : Array Value) (D : List Deferred) (wl : List (Nat × Nat)) (G : (Nat → Bool) → (Nat → Value) → World → Prop) (i : Nat) (o : Oper) : Prop :=
  ∀ (b : Nat → Bool) (v : Nat → Value) (a : Act) (w : World), At T0 D wl b v a → b i = false → (∀ e ∈ o.after, Region.binds md e = true → b e.on = true) → Closed md ops b → G b v w →
    ∀ K : Act → World → Prop, Hid9 (∀ u w', G (setb b i) (upd v i u) w' → K (a.put o.dst u) w') → if Region.wanted o (yielded ops a.tmps) = true then Oper.wp P o a w K Q else K (a.put o.dst undef) w
theorem Step.owes {T0 : Array Value} {D : List Deferred} {wl : List (Nat × Nat)} {G : (Nat → Bool) → (Nat → Value) → World → Prop} {i : Nat} {o : Oper} (hok : okW ops wl T0.size = true) (ho : ops[i]? = some o)
    (h : Step P md ops Q T0 D wl G i o) : Owes P md ops Q (Inv md ops T0 D wl G) i o := by
  intro L a w hsz hf hd hI K hK
  obtain ⟨v, hA, hC, hG⟩ := hI
  have hi : i < L.size := by rw [hsz]; exact (Array.getElem?_eq_some_iff.1 ho).1
  have hb : bits L i = false := by
    unfold bits
    simp [Array.getD, hi] at hf ⊢
    exact hf
  refine h (bits L) v a w hA hb hd hC hG K ⟨fun u w' hG' => hK.out _ _ ⟨upd v i u, ?_, ?_, ?_⟩⟩
  · rw [bits_set hi]
    cases hdst : o.dst with
    | none => have := hA.none hok ho hdst u; rw [hdst] at this; exact this
    | some d => have := hA.put hok ho hdst u; rw [hdst] at this; exact this
  · rw [bits_set hi]
    exact hC.set ho hd
  · rw [bits_set hi]
    exact hG'
theorem Each.owes {T0 : Array Value} {D : List Deferred} {wl : List (Nat × Nat)} {G : (Nat → Bool) → (Nat → Value) → World → Prop} (hok : okW ops wl T0.size = true) : ∀ {l : List Oper} {k : Nat}, (∀ i o, l[i]? = some o → ops[k + i]? = some o) →
    Each (Step P md ops Q T0 D wl G) k l → Each (Owes P md ops Q (Inv md ops T0 D wl G)) k l
  | _, _, _, .nil _ => .nil _
  | o :: l, k, hl, .cons h t => .cons (h.owes hok (hl 0 o rfl)) (t.owes hok fun i o' ho => by
      have := hl (i + 1) o' (by simpa using ho)
      rw [show k + (i + 1) = k + 1 + i by omega] at this
      exact this)
/-- **A region that draws its order, once an operation.** -/
theorem wp_region_dag {id : Nat} {T0 : Array Value} {D : List Deferred} {w : World} (hm : P.follows .mixedOrders = true) (wl : List (Nat × Nat)) (G : (Nat → Bool) → (Nat → Value) → World → Prop)
    (hlow : lowB .any ops = true) (hok : okW ops wl T0.size = true) (h0 : G (fun _ => false) (fun _ => undef) w.drew) (hs : Each (Step P .any ops Q T0 D wl G) 0 ops.toList)
    (he : ∀ (b : Nat → Bool) (v : Nat → Value) (w' : World), (∀ i, i < ops.size → b i = true) → G b v w' → Q .normal ⟨fullA T0 wl v, D⟩ w') :
    (Code.region id ops true).wp P Q ⟨T0, D⟩ w := by
  have hz : bits (Array.replicate ops.size false) = fun _ => false := by
    funext j
    unfold bits
    by_cases hj : j < ops.size <;> simp [Array.getD, hj]
  refine wp_region_inv hm (Inv .any ops T0 D wl G) hlow ⟨fun _ => undef, ?_, ?_, ?_⟩ (hs.owes hok fun i o ho => by rw [Nat.zero_add]; simpa using ho) ?_
  · rw [hz]
    exact ⟨rfl, rfl, (fun _ _ _ h => by cases h), fun _ _ => rfl⟩
  · rw [hz]
    exact fun _ _ _ h => by cases h
  · rw [hz]
    exact h0
  · intro L a w' hsz hall hI
    obtain ⟨v, hA, _, hG⟩ := hI
    have e : a = ⟨fullA T0 wl v, D⟩ := by
      obtain ⟨T, D'⟩ := a
      have h1 : D' = D := hA.defers
      have h2 : T.size = T0.size := hA.size
      subst h1
      congr 1
      refine Array.ext (by rw [fullA_size]; exact h2) fun d hd1 hd2 => ?_
      have h3 : T.getD d undef = (fullA T0 wl v).getD d undef := by
        by_cases hm : d ∈ wl.map (·.1)
        · obtain ⟨⟨d', j⟩, hj, rfl⟩ := List.mem_map.1 hm
          rw [fullA_in v wl T0 d' j (okW_nodup hok) hj (by rw [← h2]; exact hd1)]
          have hjs : j < ops.size := by
            have := (okW_dst hok hj).1
            refine Classical.byContradiction fun hc => ?_
            rw [Array.getElem?_eq_none (by omega)] at this
            cases this
          exact hA.get d' j hj (hall j hjs)
        · rw [fullA_out v wl T0 d hm]
          exact hA.base d fun j hj => absurd (List.mem_map.2 ⟨_, hj, rfl⟩) hm
      simpa [Array.getD, hd1, hd2] using h3
    rw [e]
    exact he (bits L) v w' hall hG
end
end Go.Proofs.YtbdjlnejlkiijaaDoorRRR.Dag
