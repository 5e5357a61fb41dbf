/-
  A web in which a route was paid (Go, 42).
-/
import Derived.Test.YtnnimjaigciedaaPathI
import Derived.Test.YtnnimjaigciedaaM07
import Derived.IntWalk
namespace Go.Proofs.Ytnnimjaigciedaa
open Go.RowKit
set_option linter.unusedVariables false

theorem SpotRow.grown {w w' : World} {a : Option Addr} {l : List (Int × Int)} {g t : Nat} {cs : List Value} (h : SpotRow w a l) (hb : Blk w g t cs) (hn : ∀ v ∈ cs, ∀ x, v ≠ .int .i64 x) (hO : w.grownBy w' (some g)) : SpotRow w' a l := by
  by_cases h0 : l = []
  · exact .inl h0
  rcases h with h | ⟨b, off, ha, hlt, hc⟩
  · exact absurd h h0
  have hl : 0 < l.length := by cases l with | nil => exact absurd rfl h0 | cons => simp
  have hne : b ≠ g := by
    rintro rfl
    have h1 := (hc 0 hl).1
    rw [hb.cell] at h1
    exact hn _ (List.mem_of_getElem? h1) _ rfl
  refine .inr ⟨b, off, ha, by have := hO.size; omega, fun i hi => ⟨hO.cell (hc i hi).1 (by intro e; injection e with e; exact hne e), hO.cell (hc i hi).2 (by intro e; injection e with e; exact hne e)⟩⟩
theorem EdgeRow.grown {w w' : World} {a : Option Addr} {l : List Ed} {g t : Nat} {cs : List Value} (h : EdgeRow w a l) (hb : Blk w g t cs) (hn : ∀ v ∈ cs, ∀ x, v ≠ .int .i64 x) (hO : w.grownBy w' (some g)) : EdgeRow w' a l := by
  by_cases h0 : l = []
  · exact .inl h0
  rcases h with h | ⟨b, off, ha, hlt, hc⟩
  · exact absurd h h0
  have hl : 0 < l.length := by cases l with | nil => exact absurd rfl h0 | cons => simp
  have hne : b ≠ g := by
    rintro rfl
    have h1 := hc 0 hl 0 _ rfl
    rw [hb.cell] at h1
    exact hn _ (List.mem_of_getElem? h1) _ rfl
  exact .inr ⟨b, off, ha, by have := hO.size; omega, fun i hi j v hv => hO.cell (hc i hi j v hv) (by intro e; injection e with e; exact hne e)⟩
theorem slices2 (a b : Option Addr) (l m c d : Nat) : ∀ v ∈ [Value.slice a l c, Value.slice b m d], ∀ x, v ≠ .int .i64 x := by
  intro v hv x
  simp at hv
  rcases hv with rfl | rfl <;> simp
theorem step_put31 {ops : Array Oper} {a : Act} {w : World} {o : Oper} {K : Act → World → Prop} {Q : Exit → Act → World → Prop} {E : Prop} (hw : Region.wanted o (yielded ops a.tmps) = true) (d s : Operand) (ho : o.op = .store 31 d s) (g : Nat) (u v : Value) (a1 b1 : Option Addr) (l1 c1 m1 d1 : Nat) (hd : a.eval d = .pointer (some ⟨g, 0, none⟩)) (hs : a.eval s = .agg #[.slice a1 l1 c1, .slice b1 m1 d1]) (hP : Blk w g 31 [u, v])
    (h : ∀ Y, Blk Y g 31 [.slice a1 l1 c1, .slice b1 m1 d1] → w.grownBy Y (some g) → K (a.put o.dst undef) Y) :
    if Region.wanted o (yielded ops a.tmps) = true then Oper.wp Try.prog o a w K Q else E :=
  step_store58 hw d s ho g 31 u v a1 b1 l1 m1 c1 d1 hd hs hP (h _ ((hP.set_ 0 (.slice a1 l1 c1)).set_ 1 (.slice b1 m1 d1)) (only_setCell (p := ⟨g, 1, none⟩) (only_setCell (p := ⟨g, 0, none⟩) (only_refl w _) (.inl rfl) _) (.inl rfl) _))
/-- Sends, one by one. -/
def goN (sl : Nat) (ns gs am : List Int) (es : List Ed) : Nat → Int × List Ed
  | 0 => (0, es)
  | i + 1 => if (goN sl ns gs am es i).1 ≠ 0 then goN sl ns gs am es i else if sentErr sl (goN sl ns gs am es i).2 (gs.getD i 0) (ns.getD i 0) (am.getD i 0) ≠ 0 then (sentErr sl (goN sl ns gs am es i).2 (gs.getD i 0) (ns.getD i 0) (am.getD i 0), []) else (0, sentL (goN sl ns gs am es i).2 (gs.getD i 0) (ns.getD i 0) (am.getD i 0))
theorem goN_good {sl : Nat} {ns gs am : List Int} {es E : List Ed} {i : Nat} (h : goN sl ns gs am es i = (0, E)) (h0 : sentErr sl E (gs.getD i 0) (ns.getD i 0) (am.getD i 0) = 0) : goN sl ns gs am es (i + 1) = (0, sentL E (gs.getD i 0) (ns.getD i 0) (am.getD i 0)) := by
  unfold goN
  rw [h]
  exact (if_neg (fun k => k rfl)).trans (if_neg (fun k => k h0))
theorem goN_bad {sl : Nat} {ns gs am : List Int} {es E : List Ed} {i : Nat} (h : goN sl ns gs am es i = (0, E)) (h0 : sentErr sl E (gs.getD i 0) (ns.getD i 0) (am.getD i 0) ≠ 0) : goN sl ns gs am es (i + 1) = (sentErr sl E (gs.getD i 0) (ns.getD i 0) (am.getD i 0), []) := by
  unfold goN
  rw [h]
  exact (if_neg (fun k => k rfl)).trans (if_pos h0)
theorem goN_stop {sl : Nat} {ns gs am : List Int} {es E : List Ed} {i : Nat} {e : Int} (h : goN sl ns gs am es i = (e, E)) (he : e ≠ 0) : ∀ j, i ≤ j → goN sl ns gs am es j = (e, E) := by
  intro j
  induction j with
  | zero => intro hj; have : i = 0 := by omega
            subst this; exact h
  | succ j ih =>
    intro hj
    by_cases hij : i = j + 1
    · subst hij; exact h
    · have h1 := ih (by omega)
      unfold goN
      rw [h1]
      exact if_pos he
theorem goN_ok {sl : Nat} {ns gs am : List Int} {es : List Ed} (hok : ∀ e ∈ es, EdOk e) (ha : ∀ x ∈ am, Word x) : ∀ (i : Nat) (E : List Ed), goN sl ns gs am es i = (0, E) → (∀ e ∈ E, EdOk e) ∧ E.length = es.length := by
  intro i
  induction i with
  | zero => intro E h; unfold goN at h; injection h with _ h; subst h; exact ⟨hok, rfl⟩
  | succ i ih =>
    intro E h
    cases hp : goN sl ns gs am es i with
    | mk e P =>
      unfold goN at h
      rw [hp] at h
      simp only at h
      split at h
      · rename_i he; injection h with h1 _; exact absurd h1 he
      · rename_i he
        have he0 : e = 0 := by simpa using he
        subst he0
        obtain ⟨h1, h2⟩ := ih P hp
        split at h
        · rename_i hs; injection h with h3 _; exact absurd h3 hs
        · rename_i hs
          injection h with _ h
          have hs0 : sentErr sl P (gs.getD i 0) (ns.getD i 0) (am.getD i 0) = 0 := by simpa using hs
          obtain ⟨_, k, hk, _⟩ := sentErr_ok hs0
          rw [hk] at hs0 h
          have hw : Word (am.getD i 0) := by
            rw [List.getD_eq_getElem?_getD]
            by_cases hi : i < am.length
            · rw [List.getElem?_eq_getElem hi]; exact ha _ (List.getElem_mem _)
            · rw [List.getElem?_eq_none (by omega)]; exact ⟨by decide, by decide⟩
          obtain ⟨h3, h4, _⟩ := sent_ok hs0 h1 hw
          subst h
          exact ⟨h3, h4.trans h2⟩
def goE (sl : Nat) (ns gs am : List Int) (es : List Ed) : Int := if gs.length ≠ am.length ∨ ns.length ≠ gs.length + 1 then 1 else if checkE sl es ≠ 0 then checkE sl es else (goN sl ns gs am es gs.length).1
def goL (sl : Nat) (ns gs am : List Int) (es : List Ed) : List Ed := (goN sl ns gs am es gs.length).2
def GoPost (w : World) (sp : List (Int × Int)) (es : List Ed) (ns gs am : List Int) (r : Ending) (w' : World) : Prop :=
  ∃ v, r = .returned (.tuple #[v, .int .i64 (goE sp.length ns gs am es)]) ∧ Below w.heap.size w w' ∧ (goE sp.length ns gs am es = 0 → WebAt w' v sp (goL sp.length ns gs am es)) ∧ (goE sp.length ns gs am es ≠ 0 → v = noWeb)
theorem GoPost.bad {w : World} {sp : List (Int × Int)} {es : List Ed} {ns gs am : List Int} {w' : World} {e : Int} (he : goE sp.length ns gs am es = e) (hn : e ≠ 0) (hB : Below w.heap.size w w') :
    GoPost w sp es ns gs am (.returned (.tuple #[.agg #[.slice none 0 0, .slice none 0 0], .int .i64 e])) w' :=
  ⟨_, by rw [he]; rfl, hB, fun h => absurd (he.symm.trans h) hn, fun _ => rfl⟩
theorem irow_at {w : World} {a : Option Addr} {l : List Int} {i : Nat} (h : IRow w a l) (hi : i < l.length) : ∃ b off, a = some ⟨b, off, none⟩ ∧ w.cell? ⟨b, off + i, none⟩ = some (.int .i64 (l.getD i 0)) := by
  rcases h with rfl | ⟨b, off, ha, _, hc⟩
  · simp at hi
  · exact ⟨b, off, ha, hc i hi⟩
theorem nums_row_at {w : World} {a : Option Addr} {l : List Int} {i : Nat} (h : Mon.Nums w a l) (hi : i < l.length) : ∃ b off, a = some ⟨b, off, none⟩ ∧ w.cell? ⟨b, off + i, none⟩ = some (.int .u64 (l.getD i 0)) := by
  rcases h.1 with rfl | ⟨b, off, ha, _, hc⟩
  · simp at hi
  · exact ⟨b, off, ha, hc i hi⟩
theorem cell_ne {w : World} {b o g t : Nat} {x : Int} {k : IntKind} {a c : Option Addr} {l m d e : Nat} (h : w.cell? ⟨b, o, none⟩ = some (.int k x)) (hb : Blk w g t [.slice a l d, .slice c m e]) : b ≠ g := by
  rintro rfl
  rw [hb.cell] at h
  have := List.mem_of_getElem? h
  simp at this
theorem clone_s (sa : Option Addr) (sc : Nat) (sp : List (Int × Int)) (sl : Nat) (w : World) (hsl : sp.length = sl) (hS : SpotRow w sa sp) (hn : sa = none → sp = [] ∧ sc = 0) (h2 : sl ≤ 1000) :
    Calls Try.prog 54 #[.slice sa sl sc] w fun e w' => ∃ a' c', e = .returned (.slice a' sl c') ∧ SpotRow w' a' sp ∧ Below w.heap.size w w' ∧ (a' = none → sp = [] ∧ c' = 0) := by
  subst hsl
  exact (clone39_any sa sc sp w hS hn h2).mono (fun e w' ⟨a', c', h1, h3, h4, h5, _⟩ => ⟨a', c', h1, h3, h4, h5⟩)
theorem clone_e (ea : Option Addr) (ec : Nat) (es : List Ed) (el : Nat) (w : World) (hel : es.length = el) (hE : EdgeRow w ea es) (hn : ea = none → es = [] ∧ ec = 0) (h2 : el ≤ 1000) :
    Calls Try.prog 55 #[.slice ea el ec] w fun e w' => ∃ a' c', e = .returned (.slice a' el c') ∧ EdgeRow w' a' es ∧ Below w.heap.size w w' ∧ (a' = none → es = [] ∧ c' = 0) := by
  subst hel
  refine (clone56_any ea ec es w hE hn h2).mono ?_
  rintro e w' ⟨v, h1, h3, h4⟩
  obtain ⟨a', c', rfl, h5⟩ := EdgeRow.of_own h3
  refine ⟨a', c', h1, h5, h4, fun h => ?_⟩
  have := own_nil h3 h
  exact ⟨List.eq_nil_of_length_eq_zero this.1, this.2⟩

set_option maxRecDepth 100000 in
set_option maxHeartbeats 8000000 in
theorem go_arg (na ga aa : Option Addr) (n nc m gc k ac : Nat) (ns gs am : List Int) (sa : Option Addr) (sl sc : Nat) (ea : Option Addr) (el ec : Nat) (sp : List (Int × Int)) (es : List Ed) (w : World) (hN : IRow w na ns) (hG : IRow w ga gs) (hA : Mon.Nums w aa am) (hn : ns.length = n) (hm : gs.length = m) (hk : am.length = k) (hn2 : n ≤ 1000) (hm2 : m ≤ 1000) (hk2 : k ≤ 1000) (hS : SpotRow w sa sp) (hE : EdgeRow w ea es) (hsl : sp.length = sl) (hel : es.length = el) (hs2 : sl ≤ 1000) (he2 : el ≤ 1000) (hsn : sa = none → sp = [] ∧ sc = 0) (hen : ea = none → es = [] ∧ ec = 0) (hok : ∀ e ∈ es, EdOk e) (ha : ∀ x ∈ am, Word x) (hc : m ≠ k ∨ n ≠ m + 1) :
    Calls Try.prog 42 #[.agg #[.slice na n nc, .slice ga m gc, .slice aa k ac], .agg #[.slice sa sl sc, .slice ea el ec]] w (GoPost w sp es ns gs am) := by
  have BV : Hid (Below w.heap.size w (((w.alloc (.cells #[.slice na n nc, .slice ga m gc, .slice aa k ac] 89)).alloc (.cells #[.slice sa sl sc, .slice ea el ec] 31)).alloc (.cells #[.slice none 0 0, .slice none 0 0] 31))) := Lib.hid ((((Below.refl _ _).alloc (Nat.le_refl _) _).alloc (by simp) _).alloc (by simp; omega) _)
  have RV : Hid (Blk (((w.alloc (.cells #[.slice na n nc, .slice ga m gc, .slice aa k ac] 89)).alloc (.cells #[.slice sa sl sc, .slice ea el ec] 31)).alloc (.cells #[.slice none 0 0, .slice none 0 0] 31)) w.heap.size 89 [.slice na n nc, .slice ga m gc, .slice aa k ac]) := Lib.hid (((Blk.new w 89 [.slice na n nc, .slice ga m gc, .slice aa k ac]).alloc _).alloc _)
  have PV : Hid (Blk (((w.alloc (.cells #[.slice na n nc, .slice ga m gc, .slice aa k ac] 89)).alloc (.cells #[.slice sa sl sc, .slice ea el ec] 31)).alloc (.cells #[.slice none 0 0, .slice none 0 0] 31)) (w.heap.size + 1) 31 [.slice sa sl sc, .slice ea el ec]) := Lib.hid ((Blk.mk_ (cs := [.slice sa sl sc, .slice ea el ec]) (by simp)).alloc _)
  have ZV : Hid (Blk (((w.alloc (.cells #[.slice na n nc, .slice ga m gc, .slice aa k ac] 89)).alloc (.cells #[.slice sa sl sc, .slice ea el ec] 31)).alloc (.cells #[.slice none 0 0, .slice none 0 0] 31)) (w.heap.size + 1 + 1) 31 [.slice none 0 0, .slice none 0 0]) := Lib.hid (Blk.mk_ (cs := [.slice none 0 0, .slice none 0 0]) (by simp))
  have HN := Lib.hid hN
  have HG := Lib.hid hG
  have HA := Lib.hid hA
  have HNL := Lib.hid hn
  have HML := Lib.hid hm
  have HKL := Lib.hid hk
  have HS := Lib.hid hS
  have HE := Lib.hid hE
  have HSL := Lib.hid hsl
  have HEL := Lib.hid hel
  have HSN := Lib.hid hsn
  have HEN := Lib.hid hen
  have HOK := Lib.hid hok
  have HAW := Lib.hid ha
  have HC := Lib.hid hc
  have hgr : w.heap.size ≤ w.heap.size + 1 + 1 := by omega
  clear hN hG hA hn hm hk hS hE hsl hel hsn hen hok ha hc
  go_enter Try.func42, Try.ntmps42
  go_upto_region 1 with fail
  generalize (((w.alloc (.cells #[.slice na n nc, .slice ga m gc, .slice aa k ac] 89)).alloc (.cells #[.slice sa sl sc, .slice ea el ec] 31)).alloc (.cells #[.slice none 0 0, .slice none 0 0] 31)) = V at BV RV PV ZV ⊢
  obtain ⟨gz, hgz1⟩ : ∃ g, w.heap.size + 1 + 1 = g := ⟨_, rfl⟩
  obtain ⟨gp, hgp1⟩ : ∃ g, w.heap.size + 1 = g := ⟨_, rfl⟩
  obtain ⟨gr, hgr1⟩ : ∃ g, w.heap.size = g := ⟨_, rfl⟩
  rw [hgz1] at ZV hgr ⊢
  rw [hgp1] at PV ⊢
  rw [hgr1] at RV ⊢
  clear hgr1 hgp1 hgz1
  have HX : Hid (goE sp.length ns gs am es = 1) := Lib.hid (by unfold goE; rw [if_pos (by rw [HNL.out, HML.out, HKL.out]; exact HC.out)])
  have r0 := RV.out.cell 0
  have r1 := RV.out.cell 1
  have r2 := RV.out.cell 2
  simp only [List.getElem?_cons_zero, List.getElem?_cons_succ] at r0 r1 r2
  by_cases hmk : m = k
  · have hnm : n ≠ m + 1 := by rcases HC.out with h | h; exact absurd hmk h; exact h
    have b1 : ((m : Int) != (k : Int)) = false := by rw [hmk]; simp
    have b2 : ((n : Int) != (m : Int) + 1) = true := by simp; omega
    clear hmk hnm
    have z0 := ZV.out.cell 0
    have z1 := ZV.out.cell 1
    simp only [List.getElem?_cons_zero, List.getElem?_cons_succ] at z0 z1
    have fz0 := ZV.out.frozen 0
    have fz1 := ZV.out.frozen 1
    go_wp2
    exact bodyPost_ret (results58 Try.results42 _ _ gz 31 none none 0 0 0 0 _ rfl rfl (Blk.set_ (Blk.set_ ZV.out 0 (.slice none 0 0)) 1 (.slice none 0 0))) rfl (GoPost.bad HX.out (by decide) ((BV.out.setCell (p := ⟨gz, 0, none⟩) hgr _).setCell (p := ⟨gz, 1, none⟩) hgr _))
  · have b1 : ((m : Int) != (k : Int)) = true := by simp; omega
    clear hmk
    have z0 := ZV.out.cell 0
    have z1 := ZV.out.cell 1
    simp only [List.getElem?_cons_zero, List.getElem?_cons_succ] at z0 z1
    have fz0 := ZV.out.frozen 0
    have fz1 := ZV.out.frozen 1
    go_wp2
    exact bodyPost_ret (results58 Try.results42 _ _ gz 31 none none 0 0 0 0 _ rfl rfl (Blk.set_ (Blk.set_ ZV.out 0 (.slice none 0 0)) 1 (.slice none 0 0))) rfl (GoPost.bad HX.out (by decide) ((BV.out.setCell (p := ⟨gz, 0, none⟩) hgr _).setCell (p := ⟨gz, 1, none⟩) hgr _))

set_option maxRecDepth 100000 in
set_option maxHeartbeats 8000000 in
theorem go_check (na ga aa : Option Addr) (n nc m gc k ac : Nat) (ns gs am : List Int) (sa : Option Addr) (sl sc : Nat) (ea : Option Addr) (el ec : Nat) (sp : List (Int × Int)) (es : List Ed) (w : World) (hN : IRow w na ns) (hG : IRow w ga gs) (hA : Mon.Nums w aa am) (hn : ns.length = n) (hm : gs.length = m) (hk : am.length = k) (hn2 : n ≤ 1000) (hm2 : m ≤ 1000) (hk2 : k ≤ 1000) (hS : SpotRow w sa sp) (hE : EdgeRow w ea es) (hsl : sp.length = sl) (hel : es.length = el) (hs2 : sl ≤ 1000) (he2 : el ≤ 1000) (hsn : sa = none → sp = [] ∧ sc = 0) (hen : ea = none → es = [] ∧ ec = 0) (hok : ∀ e ∈ es, EdOk e) (ha : ∀ x ∈ am, Word x) (hc : m = k ∧ n = m + 1 ∧ checkE sl es ≠ 0) :
    Calls Try.prog 42 #[.agg #[.slice na n nc, .slice ga m gc, .slice aa k ac], .agg #[.slice sa sl sc, .slice ea el ec]] w (GoPost w sp es ns gs am) := by
  have BV : Hid (Below w.heap.size w (((w.alloc (.cells #[.slice na n nc, .slice ga m gc, .slice aa k ac] 89)).alloc (.cells #[.slice sa sl sc, .slice ea el ec] 31)).alloc (.cells #[.slice none 0 0, .slice none 0 0] 31))) := Lib.hid ((((Below.refl _ _).alloc (Nat.le_refl _) _).alloc (by simp) _).alloc (by simp; omega) _)
  have RV : Hid (Blk (((w.alloc (.cells #[.slice na n nc, .slice ga m gc, .slice aa k ac] 89)).alloc (.cells #[.slice sa sl sc, .slice ea el ec] 31)).alloc (.cells #[.slice none 0 0, .slice none 0 0] 31)) w.heap.size 89 [.slice na n nc, .slice ga m gc, .slice aa k ac]) := Lib.hid (((Blk.new w 89 [.slice na n nc, .slice ga m gc, .slice aa k ac]).alloc _).alloc _)
  have PV : Hid (Blk (((w.alloc (.cells #[.slice na n nc, .slice ga m gc, .slice aa k ac] 89)).alloc (.cells #[.slice sa sl sc, .slice ea el ec] 31)).alloc (.cells #[.slice none 0 0, .slice none 0 0] 31)) (w.heap.size + 1) 31 [.slice sa sl sc, .slice ea el ec]) := Lib.hid ((Blk.mk_ (cs := [.slice sa sl sc, .slice ea el ec]) (by simp)).alloc _)
  have ZV : Hid (Blk (((w.alloc (.cells #[.slice na n nc, .slice ga m gc, .slice aa k ac] 89)).alloc (.cells #[.slice sa sl sc, .slice ea el ec] 31)).alloc (.cells #[.slice none 0 0, .slice none 0 0] 31)) (w.heap.size + 1 + 1) 31 [.slice none 0 0, .slice none 0 0]) := Lib.hid (Blk.mk_ (cs := [.slice none 0 0, .slice none 0 0]) (by simp))
  have HN := Lib.hid hN
  have HG := Lib.hid hG
  have HA := Lib.hid hA
  have HNL := Lib.hid hn
  have HML := Lib.hid hm
  have HKL := Lib.hid hk
  have HS := Lib.hid hS
  have HE := Lib.hid hE
  have HSL := Lib.hid hsl
  have HEL := Lib.hid hel
  have HSN := Lib.hid hsn
  have HEN := Lib.hid hen
  have HOK := Lib.hid hok
  have HAW := Lib.hid ha
  have HC := Lib.hid hc
  have hgr : w.heap.size ≤ w.heap.size + 1 + 1 := by omega
  clear hN hG hA hn hm hk hS hE hsl hel hsn hen hok ha hc
  go_enter Try.func42, Try.ntmps42
  go_upto_region 1 with fail
  generalize (((w.alloc (.cells #[.slice na n nc, .slice ga m gc, .slice aa k ac] 89)).alloc (.cells #[.slice sa sl sc, .slice ea el ec] 31)).alloc (.cells #[.slice none 0 0, .slice none 0 0] 31)) = V at BV RV PV ZV ⊢
  obtain ⟨gz, hgz1⟩ : ∃ g, w.heap.size + 1 + 1 = g := ⟨_, rfl⟩
  obtain ⟨gp, hgp1⟩ : ∃ g, w.heap.size + 1 = g := ⟨_, rfl⟩
  obtain ⟨gr, hgr1⟩ : ∃ g, w.heap.size = g := ⟨_, rfl⟩
  rw [hgz1] at ZV hgr ⊢
  rw [hgp1] at PV ⊢
  rw [hgr1] at RV ⊢
  clear hgr1 hgp1 hgz1
  obtain ⟨E, hE⟩ : ∃ E, checkE sl es = E := ⟨_, rfl⟩
  have HX : Hid (goE sp.length ns gs am es = E) := Lib.hid (by unfold goE; rw [if_neg (by rw [HNL.out, HML.out, HKL.out]; have := HC.out.1; have := HC.out.2.1; omega), HSL.out, if_pos HC.out.2.2]; exact hE)
  have HNZ : Hid (E ≠ 0) := Lib.hid (by rw [← hE]; exact HC.out.2.2)
  have HEE := Lib.hid hE
  clear hE
  have hmk : m = k := HC.out.1
  have b1 : ((m : Int) != (k : Int)) = false := by rw [hmk]; simp
  have b2 : ((n : Int) != (m : Int) + 1) = false := by rw [HC.out.2.1]; simp
  clear hmk
  have r0 := RV.out.cell 0
  have r1 := RV.out.cell 1
  have r2 := RV.out.cell 2
  have p0 := PV.out.cell 0
  have p1 := PV.out.cell 1
  simp only [List.getElem?_cons_zero, List.getElem?_cons_succ] at r0 r1 r2 p0 p1
  go_wp2_with fail
  clear r0 r1 r2 p0 p1 b1 b2
  refine (check_any sa sl sc ea el ec es V (HE.out.below BV.out) HEL.out (by omega) (by omega)).mono ?_
  rintro e Y ⟨rfl, hB⟩
  rw [HEE.out]
  have BY := Lib.hid (BV.out.trans (hB.mono BV.out.size))
  have ZY := Lib.hid (ZV.out.below hB ZV.out.lt)
  clear hB RV PV
  have b0 : (E != 0) = true := by have h := HNZ.out; simpa using h
  have z0 := ZY.out.cell 0
  have z1 := ZY.out.cell 1
  simp only [List.getElem?_cons_zero, List.getElem?_cons_succ] at z0 z1
  have fz0 := ZY.out.frozen 0
  have fz1 := ZY.out.frozen 1
  go_wp2
  exact bodyPost_ret (results58 Try.results42 _ _ gz 31 none none 0 0 0 0 _ rfl rfl (Blk.set_ (Blk.set_ ZY.out 0 (.slice none 0 0)) 1 (.slice none 0 0))) rfl (GoPost.bad HX.out HNZ.out ((BY.out.setCell (p := ⟨gz, 0, none⟩) hgr _).setCell (p := ⟨gz, 1, none⟩) hgr _))

set_option maxRecDepth 100000 in
set_option maxHeartbeats 8000000 in
theorem go_good (na ga aa : Option Addr) (n nc m gc k ac : Nat) (ns gs am : List Int) (sa : Option Addr) (sl sc : Nat) (ea : Option Addr) (el ec : Nat) (sp : List (Int × Int)) (es : List Ed) (w : World) (hN : IRow w na ns) (hG : IRow w ga gs) (hA : Mon.Nums w aa am) (hn : ns.length = n) (hm : gs.length = m) (hk : am.length = k) (hn2 : n ≤ 1000) (hm2 : m ≤ 1000) (hk2 : k ≤ 1000) (hS : SpotRow w sa sp) (hE : EdgeRow w ea es) (hsl : sp.length = sl) (hel : es.length = el) (hs2 : sl ≤ 1000) (he2 : el ≤ 1000) (hsn : sa = none → sp = [] ∧ sc = 0) (hen : ea = none → es = [] ∧ ec = 0) (hok : ∀ e ∈ es, EdOk e) (ha : ∀ x ∈ am, Word x) (hc : m = k ∧ n = m + 1 ∧ checkE sl es = 0) :
    Calls Try.prog 42 #[.agg #[.slice na n nc, .slice ga m gc, .slice aa k ac], .agg #[.slice sa sl sc, .slice ea el ec]] w (GoPost w sp es ns gs am) := by
  have BV : Hid (Below w.heap.size w (((w.alloc (.cells #[.slice na n nc, .slice ga m gc, .slice aa k ac] 89)).alloc (.cells #[.slice sa sl sc, .slice ea el ec] 31)).alloc (.cells #[.slice none 0 0, .slice none 0 0] 31))) := Lib.hid ((((Below.refl _ _).alloc (Nat.le_refl _) _).alloc (by simp) _).alloc (by simp; omega) _)
  have RV : Hid (Blk (((w.alloc (.cells #[.slice na n nc, .slice ga m gc, .slice aa k ac] 89)).alloc (.cells #[.slice sa sl sc, .slice ea el ec] 31)).alloc (.cells #[.slice none 0 0, .slice none 0 0] 31)) w.heap.size 89 [.slice na n nc, .slice ga m gc, .slice aa k ac]) := Lib.hid (((Blk.new w 89 [.slice na n nc, .slice ga m gc, .slice aa k ac]).alloc _).alloc _)
  have PV : Hid (Blk (((w.alloc (.cells #[.slice na n nc, .slice ga m gc, .slice aa k ac] 89)).alloc (.cells #[.slice sa sl sc, .slice ea el ec] 31)).alloc (.cells #[.slice none 0 0, .slice none 0 0] 31)) (w.heap.size + 1) 31 [.slice sa sl sc, .slice ea el ec]) := Lib.hid ((Blk.mk_ (cs := [.slice sa sl sc, .slice ea el ec]) (by simp)).alloc _)
  have ZV : Hid (Blk (((w.alloc (.cells #[.slice na n nc, .slice ga m gc, .slice aa k ac] 89)).alloc (.cells #[.slice sa sl sc, .slice ea el ec] 31)).alloc (.cells #[.slice none 0 0, .slice none 0 0] 31)) (w.heap.size + 1 + 1) 31 [.slice none 0 0, .slice none 0 0]) := Lib.hid (Blk.mk_ (cs := [.slice none 0 0, .slice none 0 0]) (by simp))
  have HN := Lib.hid hN
  have HG := Lib.hid hG
  have HA := Lib.hid hA
  have HNL := Lib.hid hn
  have HML := Lib.hid hm
  have HKL := Lib.hid hk
  have HS := Lib.hid hS
  have HE := Lib.hid hE
  have HSL := Lib.hid hsl
  have HEL := Lib.hid hel
  have HSN := Lib.hid hsn
  have HEN := Lib.hid hen
  have HOK := Lib.hid hok
  have HAW := Lib.hid ha
  have HC := Lib.hid hc
  have hgr : w.heap.size ≤ w.heap.size + 1 + 1 := by omega
  clear hN hG hA hn hm hk hS hE hsl hel hsn hen hok ha hc
  go_enter Try.func42, Try.ntmps42
  go_upto_region 1 with fail
  generalize (((w.alloc (.cells #[.slice na n nc, .slice ga m gc, .slice aa k ac] 89)).alloc (.cells #[.slice sa sl sc, .slice ea el ec] 31)).alloc (.cells #[.slice none 0 0, .slice none 0 0] 31)) = V at BV RV PV ZV ⊢
  obtain ⟨gz, hgz1⟩ : ∃ g, w.heap.size + 1 + 1 = g := ⟨_, rfl⟩
  obtain ⟨gp, hgp1⟩ : ∃ g, w.heap.size + 1 = g := ⟨_, rfl⟩
  obtain ⟨gr, hgr1⟩ : ∃ g, w.heap.size = g := ⟨_, rfl⟩
  rw [hgz1] at ZV hgr ⊢
  rw [hgp1] at PV ⊢
  rw [hgr1] at RV ⊢
  clear hgr1 hgp1 hgz1
  have HX : Hid (goE sp.length ns gs am es = (goN sl ns gs am es m).1 ∧ goL sp.length ns gs am es = (goN sl ns gs am es m).2) := Lib.hid (by unfold goE goL; rw [if_neg (by rw [HNL.out, HML.out, HKL.out]; have := HC.out.1; have := HC.out.2.1; omega), HSL.out, if_neg (by rw [HC.out.2.2]; simp), HML.out]; exact ⟨rfl, rfl⟩)
  have hmk : m = k := HC.out.1
  have b1 : ((m : Int) != (k : Int)) = false := by rw [hmk]; simp
  have b2 : ((n : Int) != (m : Int) + 1) = false := by rw [HC.out.2.1]; simp
  clear hmk
  have r0 := RV.out.cell 0
  have r1 := RV.out.cell 1
  have r2 := RV.out.cell 2
  have p0 := PV.out.cell 0
  have p1 := PV.out.cell 1
  simp only [List.getElem?_cons_zero, List.getElem?_cons_succ] at r0 r1 r2 p0 p1
  go_wp2_with fail
  clear r0 r1 r2 p0 p1 b1 b2
  refine (check_any sa sl sc ea el ec es V (HE.out.below BV.out) HEL.out (by omega) (by omega)).mono ?_
  rintro e Y ⟨rfl, hB⟩
  rw [HC.out.2.2]
  have BY := Lib.hid (BV.out.trans (hB.mono BV.out.size))
  have ZY := Lib.hid (ZV.out.below hB ZV.out.lt)
  have RY := Lib.hid (RV.out.below hB RV.out.lt)
  have PY := Lib.hid (PV.out.below hB PV.out.lt)
  clear hB RV PV BV ZV
  go_upto_region 6 with fail
  go_cut [7] (fun p wc => ∃ (g7 : Nat) (a1 : Option Addr) (c1 : Nat) (a2 : Option Addr) (c2 : Nat), p = .pointer (some ⟨g7, 0, none⟩) ∧ Hid (Blk wc gr 89 [.slice na n nc, .slice ga m gc, .slice aa k ac]) ∧ Hid (Blk wc gz 31 [.slice none 0 0, .slice none 0 0]) ∧ Hid (Below w.heap.size w wc) ∧ Hid (Blk wc g7 31 [.slice a1 sl c1, .slice a2 el c2]) ∧ Hid (SpotRow wc a1 sp) ∧ Hid (EdgeRow wc a2 es) ∧ Hid (a1 = none → sp = [] ∧ c1 = 0) ∧ Hid (a2 = none → es = [] ∧ c2 = 0) ∧ Hid (w.heap.size ≤ g7) ∧ Hid (gz ≠ g7))
  case first =>
    have hBz : Below Y.heap.size Y Y.drew := below_drewN (Below.refl _ _) 1
    have RX0 : Hid (Blk Y.drew gr 89 [.slice na n nc, .slice ga m gc, .slice aa k ac]) := Lib.hid (RY.out.below hBz RY.out.lt)
    have PX0 : Hid (Blk Y.drew gp 31 [.slice sa sl sc, .slice ea el ec]) := Lib.hid (PY.out.below hBz PY.out.lt)
    have ZX0 : Hid (Blk Y.drew gz 31 [.slice none 0 0, .slice none 0 0]) := Lib.hid (ZY.out.below hBz ZY.out.lt)
    have BX0 : Hid (Below w.heap.size w Y.drew) := Lib.hid (BY.out.trans (hBz.mono BY.out.size))
    clear hBz
    refine wp_region_held_drew (S := fun w' => Blk w' gp 31 [.slice sa sl sc, .slice ea el ec]) (by kernel_rfl) (PX0.out) (fun hHeld => ?_)
    generalize Y.drew = X0 at hHeld RX0 PX0 ZX0 BX0 ⊢
    refine wpAnyH_take (i := 0) (v := .pointer (some ⟨gp, 0, none⟩)) rfl (by kernel_rfl) (by kernel_rfl) (by kernel_rfl) (fun _ _ _ h => h) (Or.inl ⟨by rfl, by intro w' h; go_simp⟩) hHeld ?_
    show wpAnyH _ _ _ _ _ _ _ (Act.put _ (some 36) _) _
    simp only [Act.put, List.setIfInBounds_toArray, List.set_cons_zero, List.set_cons_succ]
    refine wpAnyH_take (i := 1) (v := .slice sa sl sc) rfl (by kernel_rfl) (by kernel_rfl) (by kernel_rfl) (fun _ _ _ h => h) (Or.inl ⟨by rfl, by intro w' h; have k0 := Blk.cell h 0; simp only [List.getElem?_cons_zero] at k0; go_simp⟩) hHeld ?_
    show wpAnyH _ _ _ _ _ _ _ (Act.put _ (some 37) _) _
    simp only [Act.put, List.setIfInBounds_toArray, List.set_cons_zero, List.set_cons_succ]
    refine wpAnyH_take (i := 3) (v := .pointer (some ⟨gp, 1, none⟩)) rfl (by kernel_rfl) (by kernel_rfl) (by kernel_rfl) (fun _ _ _ h => h) (Or.inl ⟨by rfl, by intro w' h; go_simp⟩) hHeld ?_
    show wpAnyH _ _ _ _ _ _ _ (Act.put _ (some 39) _) _
    simp only [Act.put, List.setIfInBounds_toArray, List.set_cons_zero, List.set_cons_succ]
    refine wpAnyH_take (i := 4) (v := .slice ea el ec) rfl (by kernel_rfl) (by kernel_rfl) (by kernel_rfl) (fun _ _ _ h => h) (Or.inl ⟨by rfl, by intro w' h; have k0 := Blk.cell h 1; simp only [List.getElem?_cons_zero, List.getElem?_cons_succ] at k0; go_simp⟩) hHeld ?_
    show wpAnyH _ _ _ _ _ _ _ (Act.put _ (some 40) _) _
    simp only [Act.put, List.setIfInBounds_toArray, List.set_cons_zero, List.set_cons_succ]
    refine wpAnyH_ready (rs := [2, 7]) (by kernel_rfl) (by simp) ?_
    refine AllReadyH.cons rfl (fun K hK => ?_) (AllReadyH.cons rfl (fun K hK => ?_) AllReadyH.nil)
    · refine step_call rfl 54 #[.tmp 37] #[28] rfl #[.slice sa sl sc] (by simp [Act.eval]) (by go_simp) (clone_s sa sc sp sl X0 HSL.out (HS.out.below BX0.out) HSN.out (by omega)) ?_
      rintro e X1 ⟨a1, c1, rfl, hS1, hB, hn1⟩
      have RX1 : Hid (Blk X1 gr 89 [.slice na n nc, .slice ga m gc, .slice aa k ac]) := Lib.hid (RX0.out.below hB RX0.out.lt)
      have PX1 : Hid (Blk X1 gp 31 [.slice sa sl sc, .slice ea el ec]) := Lib.hid (PX0.out.below hB PX0.out.lt)
      have ZX1 : Hid (Blk X1 gz 31 [.slice none 0 0, .slice none 0 0]) := Lib.hid (ZX0.out.below hB ZX0.out.lt)
      have BX1 : Hid (Below w.heap.size w X1) := Lib.hid (BX0.out.trans (hB.mono BX0.out.size))
      have SX1 : Hid (SpotRow X1 a1 sp) := Lib.hid (hS1)
      have HN1 := Lib.hid hn1
      clear RX0 PX0 ZX0 BX0 hB hS1 hn1
      refine ⟨_, rfl, hK.out _ _ (PX1.out) (fun hHeld => ?_)⟩
      clear hK K
      show wpAnyH _ _ _ _ _ _ _ (Act.put _ (some 38) _) _
      simp only [Act.put, List.setIfInBounds_toArray, List.set_cons_zero, List.set_cons_succ]
      refine wpAnyH_ready (rs := [5, 7]) (by kernel_rfl) (by simp) ?_
      refine AllReadyH.cons rfl (fun K hK => ?_) (AllReadyH.cons rfl (fun K hK => ?_) AllReadyH.nil)
      · refine step_call rfl 55 #[.tmp 40] #[29] rfl #[.slice ea el ec] (by simp [Act.eval]) (by go_simp) (clone_e ea ec es el X1 HEL.out (HE.out.below BX1.out) HEN.out (by omega)) ?_
        rintro e X2 ⟨a2, c2, rfl, hE1, hB, hn2⟩
        have RX2 : Hid (Blk X2 gr 89 [.slice na n nc, .slice ga m gc, .slice aa k ac]) := Lib.hid (RX1.out.below hB RX1.out.lt)
        have PX2 : Hid (Blk X2 gp 31 [.slice sa sl sc, .slice ea el ec]) := Lib.hid (PX1.out.below hB PX1.out.lt)
        have ZX2 : Hid (Blk X2 gz 31 [.slice none 0 0, .slice none 0 0]) := Lib.hid (ZX1.out.below hB ZX1.out.lt)
        have BX2 : Hid (Below w.heap.size w X2) := Lib.hid (BX1.out.trans (hB.mono BX1.out.size))
        have SX2 : Hid (SpotRow X2 a1 sp) := Lib.hid (SX1.out.below hB)
        have EX2 : Hid (EdgeRow X2 a2 es) := Lib.hid (hE1)
        have HN2 := Lib.hid hn2
        clear RX1 PX1 ZX1 BX1 SX1 hB hE1 hn2
        refine ⟨_, rfl, hK.out _ _ (PX2.out) (fun hHeld => ?_)⟩
        clear hK K
        show wpAnyH _ _ _ _ _ _ _ (Act.put _ (some 41) _) _
        simp only [Act.put, List.setIfInBounds_toArray, List.set_cons_zero, List.set_cons_succ]
        refine wpAnyH_take (i := 6) (v := .agg #[.slice a1 sl c1, .slice a2 el c2]) rfl (by kernel_rfl) (by kernel_rfl) (by kernel_rfl) (fun _ _ _ h => h) (Or.inl ⟨by rfl, by intro w' h; go_simp⟩) hHeld ?_
        show wpAnyH _ _ _ _ _ _ _ (Act.put _ (some 42) _) _
        simp only [Act.put, List.setIfInBounds_toArray, List.set_cons_zero, List.set_cons_succ]
        refine wpAnyH_ready (rs := [7]) (by kernel_rfl) (by simp) ?_
        refine AllReadyH.cons rfl (fun K hK => ?_) AllReadyH.nil
        refine step_web rfl rfl ?_
        intro X3 g7 hT hg7 hB
        have HPN : Hid (gp ≠ g7) := Lib.hid (by have := PX2.out.lt; omega)
        have HZN : Hid (gz ≠ g7) := Lib.hid (by have := ZX2.out.lt; omega)
        have HG7 : Hid (w.heap.size ≤ g7) := Lib.hid (Nat.le_trans BX2.out.size hg7)
        have RX3 : Hid (Blk X3 gr 89 [.slice na n nc, .slice ga m gc, .slice aa k ac]) := Lib.hid (RX2.out.below hB RX2.out.lt)
        have PX3 : Hid (Blk X3 gp 31 [.slice sa sl sc, .slice ea el ec]) := Lib.hid (PX2.out.below hB PX2.out.lt)
        have ZX3 : Hid (Blk X3 gz 31 [.slice none 0 0, .slice none 0 0]) := Lib.hid (ZX2.out.below hB ZX2.out.lt)
        have BX3 : Hid (Below w.heap.size w X3) := Lib.hid (BX2.out.trans (hB.mono BX2.out.size))
        have SX3 : Hid (SpotRow X3 a1 sp) := Lib.hid (SX2.out.below hB)
        have EX3 : Hid (EdgeRow X3 a2 es) := Lib.hid (EX2.out.below hB)
        have TX3 : Hid (Blk X3 g7 31 [.slice none 0 0, .slice none 0 0]) := Lib.hid (hT)
        clear RX2 PX2 ZX2 BX2 SX2 EX2 hB hT hg7
        refine hK.out _ _ (PX3.out) (fun hHeld => ?_)
        clear hK K
        show wpAnyH _ _ _ _ _ _ _ (Act.put _ (some 7) _) _
        simp only [Act.put, List.setIfInBounds_toArray, List.set_cons_zero, List.set_cons_succ]
        refine wpAnyH_ready (rs := [8]) (by kernel_rfl) (by simp) ?_
        refine AllReadyH.cons rfl (fun K hK => ?_) AllReadyH.nil
        refine step_put31 rfl (.tmp 7) (.tmp 42) rfl g7 _ _ a1 a2 sl c1 el c2 rfl rfl TX3.out ?_
        intro X4 hT hO
        have RX4 : Hid (Blk X4 gr 89 [.slice na n nc, .slice ga m gc, .slice aa k ac]) := Lib.hid (RX3.out.grown hO (by intro e9; injection e9 with e9; exact Blk.ne_ RX3.out TX3.out (by decide) e9))
        have PX4 : Hid (Blk X4 gp 31 [.slice sa sl sc, .slice ea el ec]) := Lib.hid (PX3.out.grown hO (by intro e9; injection e9 with e9; exact HPN.out e9))
        have ZX4 : Hid (Blk X4 gz 31 [.slice none 0 0, .slice none 0 0]) := Lib.hid (ZX3.out.grown hO (by intro e9; injection e9 with e9; exact HZN.out e9))
        have BX4 : Hid (Below w.heap.size w X4) := Lib.hid (BX3.out.trans (only_up hO HG7.out BX3.out.size))
        have SX4 : Hid (SpotRow X4 a1 sp) := Lib.hid (SX3.out.grown TX3.out (slices2 none none 0 0 0 0) hO)
        have EX4 : Hid (EdgeRow X4 a2 es) := Lib.hid (EX3.out.grown TX3.out (slices2 none none 0 0 0 0) hO)
        have TX4 : Hid (Blk X4 g7 31 [.slice a1 sl c1, .slice a2 el c2]) := Lib.hid (hT)
        clear RX3 PX3 ZX3 BX3 SX3 EX3 hO hT
        refine hK.out _ _ (PX4.out) (fun hHeld => ?_)
        clear hK K
        show wpAnyH _ _ _ _ _ _ _ (Act.put _ none _) _
        simp only [Act.put]
        refine wpAnyH_done (by kernel_rfl) ?_ _
        clear hHeld
        go_wp2_with fail
        go_meet
        exact ⟨g7, a1, c1, a2, c2, rfl, RX4, ZX4, BX4, TX4, SX4, EX4, HN1, HN2, HG7, HZN⟩
      · refine step_web rfl rfl ?_
        intro X2 g7 hT hg7 hB
        have HPN : Hid (gp ≠ g7) := Lib.hid (by have := PX1.out.lt; omega)
        have HZN : Hid (gz ≠ g7) := Lib.hid (by have := ZX1.out.lt; omega)
        have HG7 : Hid (w.heap.size ≤ g7) := Lib.hid (Nat.le_trans BX1.out.size hg7)
        have RX2 : Hid (Blk X2 gr 89 [.slice na n nc, .slice ga m gc, .slice aa k ac]) := Lib.hid (RX1.out.below hB RX1.out.lt)
        have PX2 : Hid (Blk X2 gp 31 [.slice sa sl sc, .slice ea el ec]) := Lib.hid (PX1.out.below hB PX1.out.lt)
        have ZX2 : Hid (Blk X2 gz 31 [.slice none 0 0, .slice none 0 0]) := Lib.hid (ZX1.out.below hB ZX1.out.lt)
        have BX2 : Hid (Below w.heap.size w X2) := Lib.hid (BX1.out.trans (hB.mono BX1.out.size))
        have SX2 : Hid (SpotRow X2 a1 sp) := Lib.hid (SX1.out.below hB)
        have TX2 : Hid (Blk X2 g7 31 [.slice none 0 0, .slice none 0 0]) := Lib.hid (hT)
        clear RX1 PX1 ZX1 BX1 SX1 hB hT hg7
        refine hK.out _ _ (PX2.out) (fun hHeld => ?_)
        clear hK K
        show wpAnyH _ _ _ _ _ _ _ (Act.put _ (some 7) _) _
        simp only [Act.put, List.setIfInBounds_toArray, List.set_cons_zero, List.set_cons_succ]
        refine wpAnyH_ready (rs := [5]) (by kernel_rfl) (by simp) ?_
        refine AllReadyH.cons rfl (fun K hK => ?_) AllReadyH.nil
        refine step_call rfl 55 #[.tmp 40] #[29] rfl #[.slice ea el ec] (by simp [Act.eval]) (by go_simp) (clone_e ea ec es el X2 HEL.out (HE.out.below BX2.out) HEN.out (by omega)) ?_
        rintro e X3 ⟨a2, c2, rfl, hE1, hB, hn2⟩
        have RX3 : Hid (Blk X3 gr 89 [.slice na n nc, .slice ga m gc, .slice aa k ac]) := Lib.hid (RX2.out.below hB RX2.out.lt)
        have PX3 : Hid (Blk X3 gp 31 [.slice sa sl sc, .slice ea el ec]) := Lib.hid (PX2.out.below hB PX2.out.lt)
        have ZX3 : Hid (Blk X3 gz 31 [.slice none 0 0, .slice none 0 0]) := Lib.hid (ZX2.out.below hB ZX2.out.lt)
        have BX3 : Hid (Below w.heap.size w X3) := Lib.hid (BX2.out.trans (hB.mono BX2.out.size))
        have SX3 : Hid (SpotRow X3 a1 sp) := Lib.hid (SX2.out.below hB)
        have TX3 : Hid (Blk X3 g7 31 [.slice none 0 0, .slice none 0 0]) := Lib.hid (TX2.out.below hB TX2.out.lt)
        have EX3 : Hid (EdgeRow X3 a2 es) := Lib.hid (hE1)
        have HN2 := Lib.hid hn2
        clear RX2 PX2 ZX2 BX2 SX2 TX2 hB hE1 hn2
        refine ⟨_, rfl, hK.out _ _ (PX3.out) (fun hHeld => ?_)⟩
        clear hK K
        show wpAnyH _ _ _ _ _ _ _ (Act.put _ (some 41) _) _
        simp only [Act.put, List.setIfInBounds_toArray, List.set_cons_zero, List.set_cons_succ]
        refine wpAnyH_take (i := 6) (v := .agg #[.slice a1 sl c1, .slice a2 el c2]) rfl (by kernel_rfl) (by kernel_rfl) (by kernel_rfl) (fun _ _ _ h => h) (Or.inl ⟨by rfl, by intro w' h; go_simp⟩) hHeld ?_
        show wpAnyH _ _ _ _ _ _ _ (Act.put _ (some 42) _) _
        simp only [Act.put, List.setIfInBounds_toArray, List.set_cons_zero, List.set_cons_succ]
        refine wpAnyH_ready (rs := [8]) (by kernel_rfl) (by simp) ?_
        refine AllReadyH.cons rfl (fun K hK => ?_) AllReadyH.nil
        refine step_put31 rfl (.tmp 7) (.tmp 42) rfl g7 _ _ a1 a2 sl c1 el c2 rfl rfl TX3.out ?_
        intro X4 hT hO
        have RX4 : Hid (Blk X4 gr 89 [.slice na n nc, .slice ga m gc, .slice aa k ac]) := Lib.hid (RX3.out.grown hO (by intro e9; injection e9 with e9; exact Blk.ne_ RX3.out TX3.out (by decide) e9))
        have PX4 : Hid (Blk X4 gp 31 [.slice sa sl sc, .slice ea el ec]) := Lib.hid (PX3.out.grown hO (by intro e9; injection e9 with e9; exact HPN.out e9))
        have ZX4 : Hid (Blk X4 gz 31 [.slice none 0 0, .slice none 0 0]) := Lib.hid (ZX3.out.grown hO (by intro e9; injection e9 with e9; exact HZN.out e9))
        have BX4 : Hid (Below w.heap.size w X4) := Lib.hid (BX3.out.trans (only_up hO HG7.out BX3.out.size))
        have SX4 : Hid (SpotRow X4 a1 sp) := Lib.hid (SX3.out.grown TX3.out (slices2 none none 0 0 0 0) hO)
        have EX4 : Hid (EdgeRow X4 a2 es) := Lib.hid (EX3.out.grown TX3.out (slices2 none none 0 0 0 0) hO)
        have TX4 : Hid (Blk X4 g7 31 [.slice a1 sl c1, .slice a2 el c2]) := Lib.hid (hT)
        clear RX3 PX3 ZX3 BX3 SX3 EX3 hO hT
        refine hK.out _ _ (PX4.out) (fun hHeld => ?_)
        clear hK K
        show wpAnyH _ _ _ _ _ _ _ (Act.put _ none _) _
        simp only [Act.put]
        refine wpAnyH_done (by kernel_rfl) ?_ _
        clear hHeld
        go_wp2_with fail
        go_meet
        exact ⟨g7, a1, c1, a2, c2, rfl, RX4, ZX4, BX4, TX4, SX4, EX4, HN1, HN2, HG7, HZN⟩
    · refine step_web rfl rfl ?_
      intro X1 g7 hT hg7 hB
      have HPN : Hid (gp ≠ g7) := Lib.hid (by have := PX0.out.lt; omega)
      have HZN : Hid (gz ≠ g7) := Lib.hid (by have := ZX0.out.lt; omega)
      have HG7 : Hid (w.heap.size ≤ g7) := Lib.hid (Nat.le_trans BX0.out.size hg7)
      have RX1 : Hid (Blk X1 gr 89 [.slice na n nc, .slice ga m gc, .slice aa k ac]) := Lib.hid (RX0.out.below hB RX0.out.lt)
      have PX1 : Hid (Blk X1 gp 31 [.slice sa sl sc, .slice ea el ec]) := Lib.hid (PX0.out.below hB PX0.out.lt)
      have ZX1 : Hid (Blk X1 gz 31 [.slice none 0 0, .slice none 0 0]) := Lib.hid (ZX0.out.below hB ZX0.out.lt)
      have BX1 : Hid (Below w.heap.size w X1) := Lib.hid (BX0.out.trans (hB.mono BX0.out.size))
      have TX1 : Hid (Blk X1 g7 31 [.slice none 0 0, .slice none 0 0]) := Lib.hid (hT)
      clear RX0 PX0 ZX0 BX0 hB hT hg7
      refine hK.out _ _ (PX1.out) (fun hHeld => ?_)
      clear hK K
      show wpAnyH _ _ _ _ _ _ _ (Act.put _ (some 7) _) _
      simp only [Act.put, List.setIfInBounds_toArray, List.set_cons_zero, List.set_cons_succ]
      refine wpAnyH_ready (rs := [2]) (by kernel_rfl) (by simp) ?_
      refine AllReadyH.cons rfl (fun K hK => ?_) AllReadyH.nil
      refine step_call rfl 54 #[.tmp 37] #[28] rfl #[.slice sa sl sc] (by simp [Act.eval]) (by go_simp) (clone_s sa sc sp sl X1 HSL.out (HS.out.below BX1.out) HSN.out (by omega)) ?_
      rintro e X2 ⟨a1, c1, rfl, hS1, hB, hn1⟩
      have RX2 : Hid (Blk X2 gr 89 [.slice na n nc, .slice ga m gc, .slice aa k ac]) := Lib.hid (RX1.out.below hB RX1.out.lt)
      have PX2 : Hid (Blk X2 gp 31 [.slice sa sl sc, .slice ea el ec]) := Lib.hid (PX1.out.below hB PX1.out.lt)
      have ZX2 : Hid (Blk X2 gz 31 [.slice none 0 0, .slice none 0 0]) := Lib.hid (ZX1.out.below hB ZX1.out.lt)
      have BX2 : Hid (Below w.heap.size w X2) := Lib.hid (BX1.out.trans (hB.mono BX1.out.size))
      have TX2 : Hid (Blk X2 g7 31 [.slice none 0 0, .slice none 0 0]) := Lib.hid (TX1.out.below hB TX1.out.lt)
      have SX2 : Hid (SpotRow X2 a1 sp) := Lib.hid (hS1)
      have HN1 := Lib.hid hn1
      clear RX1 PX1 ZX1 BX1 TX1 hB hS1 hn1
      refine ⟨_, rfl, hK.out _ _ (PX2.out) (fun hHeld => ?_)⟩
      clear hK K
      show wpAnyH _ _ _ _ _ _ _ (Act.put _ (some 38) _) _
      simp only [Act.put, List.setIfInBounds_toArray, List.set_cons_zero, List.set_cons_succ]
      refine wpAnyH_ready (rs := [5]) (by kernel_rfl) (by simp) ?_
      refine AllReadyH.cons rfl (fun K hK => ?_) AllReadyH.nil
      refine step_call rfl 55 #[.tmp 40] #[29] rfl #[.slice ea el ec] (by simp [Act.eval]) (by go_simp) (clone_e ea ec es el X2 HEL.out (HE.out.below BX2.out) HEN.out (by omega)) ?_
      rintro e X3 ⟨a2, c2, rfl, hE1, hB, hn2⟩
      have RX3 : Hid (Blk X3 gr 89 [.slice na n nc, .slice ga m gc, .slice aa k ac]) := Lib.hid (RX2.out.below hB RX2.out.lt)
      have PX3 : Hid (Blk X3 gp 31 [.slice sa sl sc, .slice ea el ec]) := Lib.hid (PX2.out.below hB PX2.out.lt)
      have ZX3 : Hid (Blk X3 gz 31 [.slice none 0 0, .slice none 0 0]) := Lib.hid (ZX2.out.below hB ZX2.out.lt)
      have BX3 : Hid (Below w.heap.size w X3) := Lib.hid (BX2.out.trans (hB.mono BX2.out.size))
      have TX3 : Hid (Blk X3 g7 31 [.slice none 0 0, .slice none 0 0]) := Lib.hid (TX2.out.below hB TX2.out.lt)
      have SX3 : Hid (SpotRow X3 a1 sp) := Lib.hid (SX2.out.below hB)
      have EX3 : Hid (EdgeRow X3 a2 es) := Lib.hid (hE1)
      have HN2 := Lib.hid hn2
      clear RX2 PX2 ZX2 BX2 TX2 SX2 hB hE1 hn2
      refine ⟨_, rfl, hK.out _ _ (PX3.out) (fun hHeld => ?_)⟩
      clear hK K
      show wpAnyH _ _ _ _ _ _ _ (Act.put _ (some 41) _) _
      simp only [Act.put, List.setIfInBounds_toArray, List.set_cons_zero, List.set_cons_succ]
      refine wpAnyH_take (i := 6) (v := .agg #[.slice a1 sl c1, .slice a2 el c2]) rfl (by kernel_rfl) (by kernel_rfl) (by kernel_rfl) (fun _ _ _ h => h) (Or.inl ⟨by rfl, by intro w' h; go_simp⟩) hHeld ?_
      show wpAnyH _ _ _ _ _ _ _ (Act.put _ (some 42) _) _
      simp only [Act.put, List.setIfInBounds_toArray, List.set_cons_zero, List.set_cons_succ]
      refine wpAnyH_ready (rs := [8]) (by kernel_rfl) (by simp) ?_
      refine AllReadyH.cons rfl (fun K hK => ?_) AllReadyH.nil
      refine step_put31 rfl (.tmp 7) (.tmp 42) rfl g7 _ _ a1 a2 sl c1 el c2 rfl rfl TX3.out ?_
      intro X4 hT hO
      have RX4 : Hid (Blk X4 gr 89 [.slice na n nc, .slice ga m gc, .slice aa k ac]) := Lib.hid (RX3.out.grown hO (by intro e9; injection e9 with e9; exact Blk.ne_ RX3.out TX3.out (by decide) e9))
      have PX4 : Hid (Blk X4 gp 31 [.slice sa sl sc, .slice ea el ec]) := Lib.hid (PX3.out.grown hO (by intro e9; injection e9 with e9; exact HPN.out e9))
      have ZX4 : Hid (Blk X4 gz 31 [.slice none 0 0, .slice none 0 0]) := Lib.hid (ZX3.out.grown hO (by intro e9; injection e9 with e9; exact HZN.out e9))
      have BX4 : Hid (Below w.heap.size w X4) := Lib.hid (BX3.out.trans (only_up hO HG7.out BX3.out.size))
      have SX4 : Hid (SpotRow X4 a1 sp) := Lib.hid (SX3.out.grown TX3.out (slices2 none none 0 0 0 0) hO)
      have EX4 : Hid (EdgeRow X4 a2 es) := Lib.hid (EX3.out.grown TX3.out (slices2 none none 0 0 0 0) hO)
      have TX4 : Hid (Blk X4 g7 31 [.slice a1 sl c1, .slice a2 el c2]) := Lib.hid (hT)
      clear RX3 PX3 ZX3 BX3 SX3 EX3 hO hT
      refine hK.out _ _ (PX4.out) (fun hHeld => ?_)
      clear hK K
      show wpAnyH _ _ _ _ _ _ _ (Act.put _ none _) _
      simp only [Act.put]
      refine wpAnyH_done (by kernel_rfl) ?_ _
      clear hHeld
      go_wp2_with fail
      go_meet
      exact ⟨g7, a1, c1, a2, c2, rfl, RX4, ZX4, BX4, TX4, SX4, EX4, HN1, HN2, HG7, HZN⟩
  case rest =>
    obtain ⟨g7, a1, c1, a2, c2, rfl, RW, ZW, BW, TW, SW, EW, HN1, HN2, HG7, HZN⟩ := hcut
    have r1 : wc.cell? ⟨gr, 1, none⟩ = some (.slice ga m gc) := RW.out.cell 1
    go_wp2_with fail
    clear r1
    go_loopw [46] (fun s46 wd => ∃ (i : Nat) (E : List Ed) (b1 : Option Addr) (d1 : Nat) (b2 : Option Addr) (d2 : Nat), i ≤ m ∧ s46 = .int .i64 (i : Int) ∧ Hid (goN sl ns gs am es i = (0, E)) ∧ Hid (Blk wd gr 89 [.slice na n nc, .slice ga m gc, .slice aa k ac]) ∧ Hid (Blk wd gz 31 [.slice none 0 0, .slice none 0 0]) ∧ Hid (Below w.heap.size w wd) ∧ Hid (Blk wd g7 31 [.slice b1 sl d1, .slice b2 el d2]) ∧ Hid (SpotRow wd b1 sp) ∧ Hid (EdgeRow wd b2 E) ∧ Hid (b1 = none → sp = [] ∧ d1 = 0) ∧ Hid (b2 = none → E = [] ∧ d2 = 0)) (fun i _ => m - (intOf i).toNat)
    case atStart => exact ⟨0, es, a1, c1, a2, c2, Nat.zero_le _, rfl, Lib.hid rfl, RW, ZW, BW, TW, SW, EW, HN1, HN2⟩
    case round =>
      clear RW ZW BW TW SW EW HN1 HN2
      obtain ⟨i, E, b1, d1, b2, d2, hi, rfl, HGO, Rw, Zw, Bw, Tw, Sw, Ew, HN1, HN2⟩ := hrel
      obtain ⟨wj, hwj⟩ : ∃ wj : World, wr = wj := ⟨_, rfl⟩
      rw [hwj] at Rw Zw Bw Tw Sw Ew ⊢
      clear hwj
      have HOE := Lib.hid (goN_ok HOK.out HAW.out i E HGO.out)
      by_cases hil : i < m
      · have hiI : (i : Int) < (m : Int) := by omega
        have hin : i < n := by have := HC.out.2.1; omega
        have hik : i < k := by have := HC.out.1; omega
        obtain ⟨gi, hgi⟩ : ∃ x, gs.getD i 0 = x := ⟨_, rfl⟩
        obtain ⟨ni, hni⟩ : ∃ x, ns.getD i 0 = x := ⟨_, rfl⟩
        obtain ⟨ai, hai⟩ : ∃ x, am.getD i 0 = x := ⟨_, rfl⟩
        obtain ⟨bg, og, hga, hcg⟩ := irow_at (HG.out.below Bw.out) (by rw [HML.out]; exact hil)
        obtain ⟨bn, on, hna, hcn⟩ := irow_at (HN.out.below Bw.out) (by rw [HNL.out]; exact hin)
        obtain ⟨ba, oa, haa, hca⟩ := nums_row_at (HA.out.below Bw.out) (by rw [HKL.out]; exact hik)
        rw [hgi] at hcg
        rw [hni] at hcn
        rw [hai] at hca
        subst hga hna haa
        have HWA : Hid (Word ai) := Lib.hid (by rw [← hai, List.getD_eq_getElem?_getD, List.getElem?_eq_getElem (by rw [HKL.out]; exact hik)]; exact HAW.out _ (List.getElem_mem _))
        have HGI := Lib.hid hgi
        have HNI := Lib.hid hni
        have HAI := Lib.hid hai
        have Cw := Lib.hid hcn
        have Dw := Lib.hid hca
        have Hnn : Hid ((i : Int) < (n : Int)) := Lib.hid (by omega)
        have Hkk : Hid ((i : Int) < (k : Int)) := Lib.hid (by omega)
        clear hgi hni hai hcn hca hin hik
        go_upto_region 10 with fail
        clear hcg
        by_cases her : sentErr sl E gi ni ai = 0
        · have HER := Lib.hid her
          clear her
          have HGN : Hid (goN sl ns gs am es (i + 1) = (0, sentL E gi ni ai)) := Lib.hid (by rw [← HGI.out, ← HNI.out, ← HAI.out]; exact goN_good HGO.out (by rw [HGI.out, HNI.out, HAI.out]; exact HER.out))
          have HLE : Hid ((sentL E gi ni ai).length = el) := Lib.hid ((goN_ok HOK.out HAW.out _ _ HGN.out).2.trans HEL.out)
          have Rwj := Rw
          have Twj := Tw
          have Zwj := Zw
          have Bwj := Bw
          have Swj := Sw
          have Ewj := Ew
          have Cwj := Cw
          have Dwj := Dw
          clear Rw Tw Zw Bw Sw Ew Cw Dw
          have hBz : Below wj.heap.size wj wj.drew := below_drewN (Below.refl _ _) 1
          have RX0 : Hid (Blk wj.drew gr 89 [.slice (some ⟨bn, on, none⟩) n nc, .slice (some ⟨bg, og, none⟩) m gc, .slice (some ⟨ba, oa, none⟩) k ac]) := Lib.hid (Rwj.out.below hBz Rwj.out.lt)
          have TX0 : Hid (Blk wj.drew g7 31 [.slice b1 sl d1, .slice b2 el d2]) := Lib.hid (Twj.out.below hBz Twj.out.lt)
          have ZX0 : Hid (Blk wj.drew gz 31 [.slice none 0 0, .slice none 0 0]) := Lib.hid (Zwj.out.below hBz Zwj.out.lt)
          have BX0 : Hid (Below w.heap.size w wj.drew) := Lib.hid (Bwj.out.trans (hBz.mono Bwj.out.size))
          have SX0 : Hid (SpotRow wj.drew b1 sp) := Lib.hid (Swj.out.below hBz)
          have EX0 : Hid (EdgeRow wj.drew b2 E) := Lib.hid (Ewj.out.below hBz)
          have CX0 : Hid (wj.drew.cell? ⟨bn, on + i, none⟩ = some (.int .i64 ni)) := Lib.hid ((hBz.cell (p := ⟨bn, on + i, none⟩) (World.block_lt_of_cell? _ _ Cwj.out)).trans Cwj.out)
          have DX0 : Hid (wj.drew.cell? ⟨ba, oa + i, none⟩ = some (.int .u64 ai)) := Lib.hid ((hBz.cell (p := ⟨ba, oa + i, none⟩) (World.block_lt_of_cell? _ _ Dwj.out)).trans Dwj.out)
          clear hBz
          refine wp_region_held_drew (S := fun w' => Blk w' g7 31 [.slice b1 sl d1, .slice b2 el d2] ∧ Blk w' gr 89 [.slice (some ⟨bn, on, none⟩) n nc, .slice (some ⟨bg, og, none⟩) m gc, .slice (some ⟨ba, oa, none⟩) k ac] ∧ w'.cell? ⟨bn, on + i, none⟩ = some (.int .i64 ni) ∧ w'.cell? ⟨ba, oa + i, none⟩ = some (.int .u64 ai)) (by kernel_rfl) (⟨TX0.out, RX0.out, CX0.out, DX0.out⟩) (fun hHeld => ?_)
          generalize wj.drew = X0 at hHeld RX0 TX0 ZX0 BX0 SX0 EX0 CX0 DX0 ⊢
          refine wpAnyH_take (i := 0) (v := .agg #[.slice b1 sl d1, .slice b2 el d2]) rfl (by kernel_rfl) (by kernel_rfl) (by kernel_rfl) (fun _ _ _ h => h) (Or.inl ⟨by rfl, by intro w' h; have k0 := Blk.cell h.1 0; have k1 := Blk.cell h.1 1; simp only [List.getElem?_cons_zero, List.getElem?_cons_succ] at k0 k1; go_simp⟩) hHeld ?_
          show wpAnyH _ _ _ _ _ _ _ (Act.put _ (some 52) _) _
          simp only [Act.put, List.setIfInBounds_toArray, List.set_cons_zero, List.set_cons_succ]
          refine wpAnyH_take (i := 1) (v := .int .i64 gi) rfl (by kernel_rfl) (by kernel_rfl) (by kernel_rfl) (fun _ _ _ h => h) (Or.inl ⟨by rfl, fun w _ => by rfl⟩) hHeld ?_
          show wpAnyH _ _ _ _ _ _ _ (Act.put _ (some 53) _) _
          simp only [Act.put, List.setIfInBounds_toArray, List.set_cons_zero, List.set_cons_succ]
          refine wpAnyH_take (i := 2) (v := .pointer (some ⟨gr, 0, none⟩)) rfl (by kernel_rfl) (by kernel_rfl) (by kernel_rfl) (fun _ _ _ h => h) (Or.inl ⟨by rfl, by intro w' h; go_simp⟩) hHeld ?_
          show wpAnyH _ _ _ _ _ _ _ (Act.put _ (some 54) _) _
          simp only [Act.put, List.setIfInBounds_toArray, List.set_cons_zero, List.set_cons_succ]
          refine wpAnyH_take (i := 3) (v := .slice (some ⟨bn, on, none⟩) n nc) rfl (by kernel_rfl) (by kernel_rfl) (by kernel_rfl) (fun _ _ _ h => h) (Or.inl ⟨by rfl, by intro w' h; have k0 := Blk.cell h.2.1 0; simp only [List.getElem?_cons_zero] at k0; go_simp⟩) hHeld ?_
          show wpAnyH _ _ _ _ _ _ _ (Act.put _ (some 55) _) _
          simp only [Act.put, List.setIfInBounds_toArray, List.set_cons_zero, List.set_cons_succ]
          refine wpAnyH_take (i := 4) (v := .int .i64 (i : Int)) rfl (by kernel_rfl) (by kernel_rfl) (by kernel_rfl) (fun _ _ _ h => h) (Or.inl ⟨by rfl, fun w _ => by rfl⟩) hHeld ?_
          show wpAnyH _ _ _ _ _ _ _ (Act.put _ (some 56) _) _
          simp only [Act.put, List.setIfInBounds_toArray, List.set_cons_zero, List.set_cons_succ]
          refine wpAnyH_take (i := 5) (v := .pointer (some ⟨bn, on + i, none⟩)) rfl (by kernel_rfl) (by kernel_rfl) (by kernel_rfl) (fun _ _ _ h => h) (Or.inl ⟨by rfl, by intro w' h; have nn := Hnn.out; go_simp⟩) hHeld ?_
          show wpAnyH _ _ _ _ _ _ _ (Act.put _ (some 57) _) _
          simp only [Act.put, List.setIfInBounds_toArray, List.set_cons_zero, List.set_cons_succ]
          refine wpAnyH_take (i := 6) (v := .int .i64 ni) rfl (by kernel_rfl) (by kernel_rfl) (by kernel_rfl) (fun _ _ _ h => h) (Or.inl ⟨by rfl, by intro w' h; have q9 := h.2.2.1; go_simp⟩) hHeld ?_
          show wpAnyH _ _ _ _ _ _ _ (Act.put _ (some 58) _) _
          simp only [Act.put, List.setIfInBounds_toArray, List.set_cons_zero, List.set_cons_succ]
          refine wpAnyH_take (i := 7) (v := .pointer (some ⟨gr, 2, none⟩)) rfl (by kernel_rfl) (by kernel_rfl) (by kernel_rfl) (fun _ _ _ h => h) (Or.inl ⟨by rfl, by intro w' h; go_simp⟩) hHeld ?_
          show wpAnyH _ _ _ _ _ _ _ (Act.put _ (some 59) _) _
          simp only [Act.put, List.setIfInBounds_toArray, List.set_cons_zero, List.set_cons_succ]
          refine wpAnyH_take (i := 8) (v := .slice (some ⟨ba, oa, none⟩) k ac) rfl (by kernel_rfl) (by kernel_rfl) (by kernel_rfl) (fun _ _ _ h => h) (Or.inl ⟨by rfl, by intro w' h; have k0 := Blk.cell h.2.1 2; simp only [List.getElem?_cons_zero, List.getElem?_cons_succ] at k0; go_simp⟩) hHeld ?_
          show wpAnyH _ _ _ _ _ _ _ (Act.put _ (some 60) _) _
          simp only [Act.put, List.setIfInBounds_toArray, List.set_cons_zero, List.set_cons_succ]
          refine wpAnyH_take (i := 9) (v := .int .i64 (i : Int)) rfl (by kernel_rfl) (by kernel_rfl) (by kernel_rfl) (fun _ _ _ h => h) (Or.inl ⟨by rfl, fun w _ => by rfl⟩) hHeld ?_
          show wpAnyH _ _ _ _ _ _ _ (Act.put _ (some 61) _) _
          simp only [Act.put, List.setIfInBounds_toArray, List.set_cons_zero, List.set_cons_succ]
          refine wpAnyH_take (i := 10) (v := .pointer (some ⟨ba, oa + i, none⟩)) rfl (by kernel_rfl) (by kernel_rfl) (by kernel_rfl) (fun _ _ _ h => h) (Or.inl ⟨by rfl, by intro w' h; have kk := Hkk.out; go_simp⟩) hHeld ?_
          show wpAnyH _ _ _ _ _ _ _ (Act.put _ (some 62) _) _
          simp only [Act.put, List.setIfInBounds_toArray, List.set_cons_zero, List.set_cons_succ]
          refine wpAnyH_take (i := 11) (v := .int .u64 ai) rfl (by kernel_rfl) (by kernel_rfl) (by kernel_rfl) (fun _ _ _ h => h) (Or.inl ⟨by rfl, by intro w' h; have q9 := h.2.2.2; go_simp⟩) hHeld ?_
          show wpAnyH _ _ _ _ _ _ _ (Act.put _ (some 63) _) _
          simp only [Act.put, List.setIfInBounds_toArray, List.set_cons_zero, List.set_cons_succ]
          refine wpAnyH_ready (rs := [12, 16]) (by kernel_rfl) (by simp) ?_
          refine AllReadyH.cons rfl (fun K hK => ?_) (AllReadyH.cons rfl (fun K hK => ?_) AllReadyH.nil)
          · refine step_call rfl 27 #[.tmp 52, .tmp 53, .tmp 58, .tmp 63] #[31, 3, 3, 40] rfl #[.agg #[.slice b1 sl d1, .slice b2 el d2], .int .i64 gi, .int .i64 ni, .int .u64 ai] (by simp [Act.eval]) (by go_simp) (sent_any (.agg #[.slice b1 sl d1, .slice b2 el d2]) sp E gi ni ai X0 ⟨b1, d1, b2, d2, by rw [HSL.out, HOE.out.2, HEL.out], SX0.out, EX0.out, HN1.out, HN2.out⟩ (by rw [HSL.out]; omega) (by rw [HOE.out.2, HEL.out]; omega) HOE.out.1 HWA.out) ?_
            rintro e X1 ⟨v, rfl, hB, hv, _⟩
            rw [HSL.out, HER.out]
            obtain ⟨e1, f1, e2, f2, rfl, hs3, he3, hn3, hn4⟩ := hv (by rw [HSL.out]; exact HER.out)
            rw [HSL.out, HLE.out]
            have HN3 := Lib.hid hn3
            have HN4 := Lib.hid hn4
            clear hv hn3 hn4
            have RX1 : Hid (Blk X1 gr 89 [.slice (some ⟨bn, on, none⟩) n nc, .slice (some ⟨bg, og, none⟩) m gc, .slice (some ⟨ba, oa, none⟩) k ac]) := Lib.hid (RX0.out.below hB RX0.out.lt)
            have TX1 : Hid (Blk X1 g7 31 [.slice b1 sl d1, .slice b2 el d2]) := Lib.hid (TX0.out.below hB TX0.out.lt)
            have ZX1 : Hid (Blk X1 gz 31 [.slice none 0 0, .slice none 0 0]) := Lib.hid (ZX0.out.below hB ZX0.out.lt)
            have BX1 : Hid (Below w.heap.size w X1) := Lib.hid (BX0.out.trans (hB.mono BX0.out.size))
            have SX1 : Hid (SpotRow X1 b1 sp) := Lib.hid (SX0.out.below hB)
            have EX1 : Hid (EdgeRow X1 b2 E) := Lib.hid (EX0.out.below hB)
            have CX1 : Hid (X1.cell? ⟨bn, on + i, none⟩ = some (.int .i64 ni)) := Lib.hid ((hB.cell (p := ⟨bn, on + i, none⟩) (World.block_lt_of_cell? _ _ CX0.out)).trans CX0.out)
            have DX1 : Hid (X1.cell? ⟨ba, oa + i, none⟩ = some (.int .u64 ai)) := Lib.hid ((hB.cell (p := ⟨ba, oa + i, none⟩) (World.block_lt_of_cell? _ _ DX0.out)).trans DX0.out)
            have FX1 : Hid (SpotRow X1 e1 sp) := Lib.hid (hs3)
            have GX1 : Hid (EdgeRow X1 e2 (sentL E gi ni ai)) := Lib.hid (he3)
            clear RX0 TX0 ZX0 BX0 SX0 EX0 CX0 DX0 hB hs3 he3
            refine ⟨_, rfl, hK.out _ _ (⟨TX1.out, RX1.out, CX1.out, DX1.out⟩) (fun hHeld => ?_)⟩
            clear hK K
            show wpAnyH _ _ _ _ _ _ _ (Act.put _ (some 64) _) _
            simp only [Act.put, List.setIfInBounds_toArray, List.set_cons_zero, List.set_cons_succ]
            refine wpAnyH_take (i := 13) (v := .tuple #[.agg #[.slice e1 sl f1, .slice e2 el f2], .int .i64 0]) rfl (by kernel_rfl) (by kernel_rfl) (by kernel_rfl) (fun _ _ _ h => h) (Or.inl ⟨by rfl, fun w _ => by rfl⟩) hHeld ?_
            show wpAnyH _ _ _ _ _ _ _ (Act.put _ (some 51) _) _
            simp only [Act.put, List.setIfInBounds_toArray, List.set_cons_zero, List.set_cons_succ]
            refine wpAnyH_take (i := 14) (v := .agg #[.slice e1 sl f1, .slice e2 el f2]) rfl (by kernel_rfl) (by kernel_rfl) (by kernel_rfl) (fun _ _ _ h => h) (Or.inl ⟨by rfl, by intro w' h; go_simp⟩) hHeld ?_
            show wpAnyH _ _ _ _ _ _ _ (Act.put _ (some 65) _) _
            simp only [Act.put, List.setIfInBounds_toArray, List.set_cons_zero, List.set_cons_succ]
            refine wpAnyH_take (i := 15) (v := .int .i64 0) rfl (by kernel_rfl) (by kernel_rfl) (by kernel_rfl) (fun _ _ _ h => h) (Or.inl ⟨by rfl, by intro w' h; go_simp⟩) hHeld ?_
            show wpAnyH _ _ _ _ _ _ _ (Act.put _ (some 66) _) _
            simp only [Act.put, List.setIfInBounds_toArray, List.set_cons_zero, List.set_cons_succ]
            refine wpAnyH_ready (rs := [16]) (by kernel_rfl) (by simp) ?_
            refine AllReadyH.cons rfl (fun K hK => ?_) AllReadyH.nil
            refine step_web rfl rfl ?_
            intro X2 g9 hT hg9 hB
            have HZM : Hid (gz ≠ g9) := Lib.hid (by have := ZX1.out.lt; omega)
            have H7N : Hid (g7 ≠ g9) := Lib.hid (by have := TX1.out.lt; omega)
            have HGM : Hid (w.heap.size ≤ g9) := Lib.hid (Nat.le_trans BX1.out.size hg9)
            have RX2 : Hid (Blk X2 gr 89 [.slice (some ⟨bn, on, none⟩) n nc, .slice (some ⟨bg, og, none⟩) m gc, .slice (some ⟨ba, oa, none⟩) k ac]) := Lib.hid (RX1.out.below hB RX1.out.lt)
            have TX2 : Hid (Blk X2 g7 31 [.slice b1 sl d1, .slice b2 el d2]) := Lib.hid (TX1.out.below hB TX1.out.lt)
            have ZX2 : Hid (Blk X2 gz 31 [.slice none 0 0, .slice none 0 0]) := Lib.hid (ZX1.out.below hB ZX1.out.lt)
            have BX2 : Hid (Below w.heap.size w X2) := Lib.hid (BX1.out.trans (hB.mono BX1.out.size))
            have SX2 : Hid (SpotRow X2 b1 sp) := Lib.hid (SX1.out.below hB)
            have EX2 : Hid (EdgeRow X2 b2 E) := Lib.hid (EX1.out.below hB)
            have CX2 : Hid (X2.cell? ⟨bn, on + i, none⟩ = some (.int .i64 ni)) := Lib.hid ((hB.cell (p := ⟨bn, on + i, none⟩) (World.block_lt_of_cell? _ _ CX1.out)).trans CX1.out)
            have DX2 : Hid (X2.cell? ⟨ba, oa + i, none⟩ = some (.int .u64 ai)) := Lib.hid ((hB.cell (p := ⟨ba, oa + i, none⟩) (World.block_lt_of_cell? _ _ DX1.out)).trans DX1.out)
            have FX2 : Hid (SpotRow X2 e1 sp) := Lib.hid (FX1.out.below hB)
            have GX2 : Hid (EdgeRow X2 e2 (sentL E gi ni ai)) := Lib.hid (GX1.out.below hB)
            have NX2 : Hid (Blk X2 g9 31 [.slice none 0 0, .slice none 0 0]) := Lib.hid (hT)
            clear RX1 TX1 ZX1 BX1 SX1 EX1 CX1 DX1 FX1 GX1 hB hT hg9
            refine hK.out _ _ (⟨TX2.out, RX2.out, CX2.out, DX2.out⟩) (fun hHeld => ?_)
            clear hK K
            show wpAnyH _ _ _ _ _ _ _ (Act.put _ (some 10) _) _
            simp only [Act.put, List.setIfInBounds_toArray, List.set_cons_zero, List.set_cons_succ]
            refine wpAnyH_ready (rs := [17]) (by kernel_rfl) (by simp) ?_
            refine AllReadyH.cons rfl (fun K hK => ?_) AllReadyH.nil
            refine step_put31 rfl (.tmp 10) (.tmp 65) rfl g9 _ _ e1 e2 sl f1 el f2 rfl rfl NX2.out ?_
            intro X3 hT hO
            have RX3 : Hid (Blk X3 gr 89 [.slice (some ⟨bn, on, none⟩) n nc, .slice (some ⟨bg, og, none⟩) m gc, .slice (some ⟨ba, oa, none⟩) k ac]) := Lib.hid (RX2.out.grown hO (by intro e9; injection e9 with e9; exact Blk.ne_ RX2.out NX2.out (by decide) e9))
            have TX3 : Hid (Blk X3 g7 31 [.slice b1 sl d1, .slice b2 el d2]) := Lib.hid (TX2.out.grown hO (by intro e9; injection e9 with e9; exact H7N.out e9))
            have ZX3 : Hid (Blk X3 gz 31 [.slice none 0 0, .slice none 0 0]) := Lib.hid (ZX2.out.grown hO (by intro e9; injection e9 with e9; exact HZM.out e9))
            have BX3 : Hid (Below w.heap.size w X3) := Lib.hid (BX2.out.trans (only_up hO HGM.out BX2.out.size))
            have SX3 : Hid (SpotRow X3 b1 sp) := Lib.hid (SX2.out.grown NX2.out (slices2 none none 0 0 0 0) hO)
            have EX3 : Hid (EdgeRow X3 b2 E) := Lib.hid (EX2.out.grown NX2.out (slices2 none none 0 0 0 0) hO)
            have CX3 : Hid (X3.cell? ⟨bn, on + i, none⟩ = some (.int .i64 ni)) := Lib.hid (hO.cell CX2.out (by intro e9; injection e9 with e9; exact cell_ne (x := ni) (k := .i64) CX2.out NX2.out e9))
            have DX3 : Hid (X3.cell? ⟨ba, oa + i, none⟩ = some (.int .u64 ai)) := Lib.hid (hO.cell DX2.out (by intro e9; injection e9 with e9; exact cell_ne (x := ai) (k := .u64) DX2.out NX2.out e9))
            have FX3 : Hid (SpotRow X3 e1 sp) := Lib.hid (FX2.out.grown NX2.out (slices2 none none 0 0 0 0) hO)
            have GX3 : Hid (EdgeRow X3 e2 (sentL E gi ni ai)) := Lib.hid (GX2.out.grown NX2.out (slices2 none none 0 0 0 0) hO)
            have NX3 : Hid (Blk X3 g9 31 [.slice e1 sl f1, .slice e2 el f2]) := Lib.hid (hT)
            clear RX2 TX2 ZX2 BX2 SX2 EX2 CX2 DX2 FX2 GX2 hO hT
            refine hK.out _ _ (⟨TX3.out, RX3.out, CX3.out, DX3.out⟩) (fun hHeld => ?_)
            clear hK K
            show wpAnyH _ _ _ _ _ _ _ (Act.put _ none _) _
            simp only [Act.put]
            refine wpAnyH_take (i := 18) (v := .int .i64 0) rfl (by kernel_rfl) (by kernel_rfl) (by kernel_rfl) (fun _ _ _ h => h) (Or.inl ⟨by rfl, fun w _ => by rfl⟩) hHeld ?_
            show wpAnyH _ _ _ _ _ _ _ (Act.put _ (some 11) _) _
            simp only [Act.put, List.setIfInBounds_toArray, List.set_cons_zero, List.set_cons_succ]
            refine wpAnyH_done (by kernel_rfl) ?_ _
            clear hHeld
            have t0 := NX3.out.cell 0
            have t1 := NX3.out.cell 1
            have s0 := TX3.out.cell 0
            have s1 := TX3.out.cell 1
            simp only [List.getElem?_cons_zero, List.getElem?_cons_succ] at t0 t1 s0 s1
            have fs0 := TX3.out.frozen 0
            have fs1 := TX3.out.frozen 1
            have hO : X3.grownBy ((X3.setCell ⟨g7, 0, none⟩ (.slice e1 sl f1)).setCell ⟨g7, 1, none⟩ (.slice e2 el f2)) (some g7) := only_setCell (p := ⟨g7, 1, none⟩) (only_setCell (p := ⟨g7, 0, none⟩) (only_refl X3 _) (.inl rfl) _) (.inl rfl) _
            have TZ := Lib.hid (Blk.set_ (Blk.set_ TX3.out 0 (.slice e1 sl f1)) 1 (.slice e2 el f2))
            have RZ := Lib.hid (RX3.out.grown hO (by intro e9; injection e9 with e9; exact Blk.ne_ RX3.out TX3.out (by decide) e9))
            have ZZ := Lib.hid (ZX3.out.grown hO (by intro e9; injection e9 with e9; exact HZN.out e9))
            have BZ := Lib.hid (BX3.out.trans (only_up hO HG7.out BX3.out.size))
            have FZ := Lib.hid (FX3.out.grown TX3.out (slices2 _ _ _ _ _ _) hO)
            have GZ := Lib.hid (GX3.out.grown TX3.out (slices2 _ _ _ _ _ _) hO)
            have hg9 := H7N.out
            clear hO
            go_wp2
            go_roundw
            case rel => exact ⟨i + 1, sentL E gi ni ai, e1, f1, e2, f2, by omega, by go_num, HGN, RZ, ZZ, BZ, TZ, FZ, GZ, HN3, HN4⟩
            case measure => simp [intOf]; omega
          · refine step_web rfl rfl ?_
            intro X1 g9 hT hg9 hB
            have HZM : Hid (gz ≠ g9) := Lib.hid (by have := ZX0.out.lt; omega)
            have H7N : Hid (g7 ≠ g9) := Lib.hid (by have := TX0.out.lt; omega)
            have HGM : Hid (w.heap.size ≤ g9) := Lib.hid (Nat.le_trans BX0.out.size hg9)
            have RX1 : Hid (Blk X1 gr 89 [.slice (some ⟨bn, on, none⟩) n nc, .slice (some ⟨bg, og, none⟩) m gc, .slice (some ⟨ba, oa, none⟩) k ac]) := Lib.hid (RX0.out.below hB RX0.out.lt)
            have TX1 : Hid (Blk X1 g7 31 [.slice b1 sl d1, .slice b2 el d2]) := Lib.hid (TX0.out.below hB TX0.out.lt)
            have ZX1 : Hid (Blk X1 gz 31 [.slice none 0 0, .slice none 0 0]) := Lib.hid (ZX0.out.below hB ZX0.out.lt)
            have BX1 : Hid (Below w.heap.size w X1) := Lib.hid (BX0.out.trans (hB.mono BX0.out.size))
            have SX1 : Hid (SpotRow X1 b1 sp) := Lib.hid (SX0.out.below hB)
            have EX1 : Hid (EdgeRow X1 b2 E) := Lib.hid (EX0.out.below hB)
            have CX1 : Hid (X1.cell? ⟨bn, on + i, none⟩ = some (.int .i64 ni)) := Lib.hid ((hB.cell (p := ⟨bn, on + i, none⟩) (World.block_lt_of_cell? _ _ CX0.out)).trans CX0.out)
            have DX1 : Hid (X1.cell? ⟨ba, oa + i, none⟩ = some (.int .u64 ai)) := Lib.hid ((hB.cell (p := ⟨ba, oa + i, none⟩) (World.block_lt_of_cell? _ _ DX0.out)).trans DX0.out)
            have NX1 : Hid (Blk X1 g9 31 [.slice none 0 0, .slice none 0 0]) := Lib.hid (hT)
            clear RX0 TX0 ZX0 BX0 SX0 EX0 CX0 DX0 hB hT hg9
            refine hK.out _ _ (⟨TX1.out, RX1.out, CX1.out, DX1.out⟩) (fun hHeld => ?_)
            clear hK K
            show wpAnyH _ _ _ _ _ _ _ (Act.put _ (some 10) _) _
            simp only [Act.put, List.setIfInBounds_toArray, List.set_cons_zero, List.set_cons_succ]
            refine wpAnyH_ready (rs := [12]) (by kernel_rfl) (by simp) ?_
            refine AllReadyH.cons rfl (fun K hK => ?_) AllReadyH.nil
            refine step_call rfl 27 #[.tmp 52, .tmp 53, .tmp 58, .tmp 63] #[31, 3, 3, 40] rfl #[.agg #[.slice b1 sl d1, .slice b2 el d2], .int .i64 gi, .int .i64 ni, .int .u64 ai] (by simp [Act.eval]) (by go_simp) (sent_any (.agg #[.slice b1 sl d1, .slice b2 el d2]) sp E gi ni ai X1 ⟨b1, d1, b2, d2, by rw [HSL.out, HOE.out.2, HEL.out], SX1.out, EX1.out, HN1.out, HN2.out⟩ (by rw [HSL.out]; omega) (by rw [HOE.out.2, HEL.out]; omega) HOE.out.1 HWA.out) ?_
            rintro e X2 ⟨v, rfl, hB, hv, _⟩
            rw [HSL.out, HER.out]
            obtain ⟨e1, f1, e2, f2, rfl, hs3, he3, hn3, hn4⟩ := hv (by rw [HSL.out]; exact HER.out)
            rw [HSL.out, HLE.out]
            have HN3 := Lib.hid hn3
            have HN4 := Lib.hid hn4
            clear hv hn3 hn4
            have RX2 : Hid (Blk X2 gr 89 [.slice (some ⟨bn, on, none⟩) n nc, .slice (some ⟨bg, og, none⟩) m gc, .slice (some ⟨ba, oa, none⟩) k ac]) := Lib.hid (RX1.out.below hB RX1.out.lt)
            have TX2 : Hid (Blk X2 g7 31 [.slice b1 sl d1, .slice b2 el d2]) := Lib.hid (TX1.out.below hB TX1.out.lt)
            have ZX2 : Hid (Blk X2 gz 31 [.slice none 0 0, .slice none 0 0]) := Lib.hid (ZX1.out.below hB ZX1.out.lt)
            have BX2 : Hid (Below w.heap.size w X2) := Lib.hid (BX1.out.trans (hB.mono BX1.out.size))
            have SX2 : Hid (SpotRow X2 b1 sp) := Lib.hid (SX1.out.below hB)
            have EX2 : Hid (EdgeRow X2 b2 E) := Lib.hid (EX1.out.below hB)
            have CX2 : Hid (X2.cell? ⟨bn, on + i, none⟩ = some (.int .i64 ni)) := Lib.hid ((hB.cell (p := ⟨bn, on + i, none⟩) (World.block_lt_of_cell? _ _ CX1.out)).trans CX1.out)
            have DX2 : Hid (X2.cell? ⟨ba, oa + i, none⟩ = some (.int .u64 ai)) := Lib.hid ((hB.cell (p := ⟨ba, oa + i, none⟩) (World.block_lt_of_cell? _ _ DX1.out)).trans DX1.out)
            have NX2 : Hid (Blk X2 g9 31 [.slice none 0 0, .slice none 0 0]) := Lib.hid (NX1.out.below hB NX1.out.lt)
            have FX2 : Hid (SpotRow X2 e1 sp) := Lib.hid (hs3)
            have GX2 : Hid (EdgeRow X2 e2 (sentL E gi ni ai)) := Lib.hid (he3)
            clear RX1 TX1 ZX1 BX1 SX1 EX1 CX1 DX1 NX1 hB hs3 he3
            refine ⟨_, rfl, hK.out _ _ (⟨TX2.out, RX2.out, CX2.out, DX2.out⟩) (fun hHeld => ?_)⟩
            clear hK K
            show wpAnyH _ _ _ _ _ _ _ (Act.put _ (some 64) _) _
            simp only [Act.put, List.setIfInBounds_toArray, List.set_cons_zero, List.set_cons_succ]
            refine wpAnyH_take (i := 13) (v := .tuple #[.agg #[.slice e1 sl f1, .slice e2 el f2], .int .i64 0]) rfl (by kernel_rfl) (by kernel_rfl) (by kernel_rfl) (fun _ _ _ h => h) (Or.inl ⟨by rfl, fun w _ => by rfl⟩) hHeld ?_
            show wpAnyH _ _ _ _ _ _ _ (Act.put _ (some 51) _) _
            simp only [Act.put, List.setIfInBounds_toArray, List.set_cons_zero, List.set_cons_succ]
            refine wpAnyH_take (i := 14) (v := .agg #[.slice e1 sl f1, .slice e2 el f2]) rfl (by kernel_rfl) (by kernel_rfl) (by kernel_rfl) (fun _ _ _ h => h) (Or.inl ⟨by rfl, by intro w' h; go_simp⟩) hHeld ?_
            show wpAnyH _ _ _ _ _ _ _ (Act.put _ (some 65) _) _
            simp only [Act.put, List.setIfInBounds_toArray, List.set_cons_zero, List.set_cons_succ]
            refine wpAnyH_take (i := 15) (v := .int .i64 0) rfl (by kernel_rfl) (by kernel_rfl) (by kernel_rfl) (fun _ _ _ h => h) (Or.inl ⟨by rfl, by intro w' h; go_simp⟩) hHeld ?_
            show wpAnyH _ _ _ _ _ _ _ (Act.put _ (some 66) _) _
            simp only [Act.put, List.setIfInBounds_toArray, List.set_cons_zero, List.set_cons_succ]
            refine wpAnyH_ready (rs := [17]) (by kernel_rfl) (by simp) ?_
            refine AllReadyH.cons rfl (fun K hK => ?_) AllReadyH.nil
            refine step_put31 rfl (.tmp 10) (.tmp 65) rfl g9 _ _ e1 e2 sl f1 el f2 rfl rfl NX2.out ?_
            intro X3 hT hO
            have RX3 : Hid (Blk X3 gr 89 [.slice (some ⟨bn, on, none⟩) n nc, .slice (some ⟨bg, og, none⟩) m gc, .slice (some ⟨ba, oa, none⟩) k ac]) := Lib.hid (RX2.out.grown hO (by intro e9; injection e9 with e9; exact Blk.ne_ RX2.out NX2.out (by decide) e9))
            have TX3 : Hid (Blk X3 g7 31 [.slice b1 sl d1, .slice b2 el d2]) := Lib.hid (TX2.out.grown hO (by intro e9; injection e9 with e9; exact H7N.out e9))
            have ZX3 : Hid (Blk X3 gz 31 [.slice none 0 0, .slice none 0 0]) := Lib.hid (ZX2.out.grown hO (by intro e9; injection e9 with e9; exact HZM.out e9))
            have BX3 : Hid (Below w.heap.size w X3) := Lib.hid (BX2.out.trans (only_up hO HGM.out BX2.out.size))
            have SX3 : Hid (SpotRow X3 b1 sp) := Lib.hid (SX2.out.grown NX2.out (slices2 none none 0 0 0 0) hO)
            have EX3 : Hid (EdgeRow X3 b2 E) := Lib.hid (EX2.out.grown NX2.out (slices2 none none 0 0 0 0) hO)
            have CX3 : Hid (X3.cell? ⟨bn, on + i, none⟩ = some (.int .i64 ni)) := Lib.hid (hO.cell CX2.out (by intro e9; injection e9 with e9; exact cell_ne (x := ni) (k := .i64) CX2.out NX2.out e9))
            have DX3 : Hid (X3.cell? ⟨ba, oa + i, none⟩ = some (.int .u64 ai)) := Lib.hid (hO.cell DX2.out (by intro e9; injection e9 with e9; exact cell_ne (x := ai) (k := .u64) DX2.out NX2.out e9))
            have FX3 : Hid (SpotRow X3 e1 sp) := Lib.hid (FX2.out.grown NX2.out (slices2 none none 0 0 0 0) hO)
            have GX3 : Hid (EdgeRow X3 e2 (sentL E gi ni ai)) := Lib.hid (GX2.out.grown NX2.out (slices2 none none 0 0 0 0) hO)
            have NX3 : Hid (Blk X3 g9 31 [.slice e1 sl f1, .slice e2 el f2]) := Lib.hid (hT)
            clear RX2 TX2 ZX2 BX2 SX2 EX2 CX2 DX2 FX2 GX2 hO hT
            refine hK.out _ _ (⟨TX3.out, RX3.out, CX3.out, DX3.out⟩) (fun hHeld => ?_)
            clear hK K
            show wpAnyH _ _ _ _ _ _ _ (Act.put _ none _) _
            simp only [Act.put]
            refine wpAnyH_take (i := 18) (v := .int .i64 0) rfl (by kernel_rfl) (by kernel_rfl) (by kernel_rfl) (fun _ _ _ h => h) (Or.inl ⟨by rfl, fun w _ => by rfl⟩) hHeld ?_
            show wpAnyH _ _ _ _ _ _ _ (Act.put _ (some 11) _) _
            simp only [Act.put, List.setIfInBounds_toArray, List.set_cons_zero, List.set_cons_succ]
            refine wpAnyH_done (by kernel_rfl) ?_ _
            clear hHeld
            have t0 := NX3.out.cell 0
            have t1 := NX3.out.cell 1
            have s0 := TX3.out.cell 0
            have s1 := TX3.out.cell 1
            simp only [List.getElem?_cons_zero, List.getElem?_cons_succ] at t0 t1 s0 s1
            have fs0 := TX3.out.frozen 0
            have fs1 := TX3.out.frozen 1
            have hO : X3.grownBy ((X3.setCell ⟨g7, 0, none⟩ (.slice e1 sl f1)).setCell ⟨g7, 1, none⟩ (.slice e2 el f2)) (some g7) := only_setCell (p := ⟨g7, 1, none⟩) (only_setCell (p := ⟨g7, 0, none⟩) (only_refl X3 _) (.inl rfl) _) (.inl rfl) _
            have TZ := Lib.hid (Blk.set_ (Blk.set_ TX3.out 0 (.slice e1 sl f1)) 1 (.slice e2 el f2))
            have RZ := Lib.hid (RX3.out.grown hO (by intro e9; injection e9 with e9; exact Blk.ne_ RX3.out TX3.out (by decide) e9))
            have ZZ := Lib.hid (ZX3.out.grown hO (by intro e9; injection e9 with e9; exact HZN.out e9))
            have BZ := Lib.hid (BX3.out.trans (only_up hO HG7.out BX3.out.size))
            have FZ := Lib.hid (FX3.out.grown TX3.out (slices2 _ _ _ _ _ _) hO)
            have GZ := Lib.hid (GX3.out.grown TX3.out (slices2 _ _ _ _ _ _) hO)
            have hg9 := H7N.out
            clear hO
            go_wp2
            go_roundw
            case rel => exact ⟨i + 1, sentL E gi ni ai, e1, f1, e2, f2, by omega, by go_num, HGN, RZ, ZZ, BZ, TZ, FZ, GZ, HN3, HN4⟩
            case measure => simp [intOf]; omega
        · have HER := Lib.hid her
          obtain ⟨er, hee⟩ : ∃ x, sentErr sl E gi ni ai = x := ⟨_, rfl⟩
          have HEE := Lib.hid hee
          have HNZ : Hid (er ≠ 0) := Lib.hid (by rw [← hee]; exact her)
          have HXE : Hid (goE sp.length ns gs am es = er) := Lib.hid (by rw [HX.out.1, goN_stop (goN_bad HGO.out (by rw [HGI.out, HNI.out, HAI.out]; exact her)) (by rw [HGI.out, HNI.out, HAI.out]; exact her) m (by omega), HGI.out, HNI.out, HAI.out]; exact hee)
          clear her hee
          have Rwj := Rw
          have Twj := Tw
          have Zwj := Zw
          have Bwj := Bw
          have Swj := Sw
          have Ewj := Ew
          have Cwj := Cw
          have Dwj := Dw
          clear Rw Tw Zw Bw Sw Ew Cw Dw
          have hBz : Below wj.heap.size wj wj.drew := below_drewN (Below.refl _ _) 1
          have RX0 : Hid (Blk wj.drew gr 89 [.slice (some ⟨bn, on, none⟩) n nc, .slice (some ⟨bg, og, none⟩) m gc, .slice (some ⟨ba, oa, none⟩) k ac]) := Lib.hid (Rwj.out.below hBz Rwj.out.lt)
          have TX0 : Hid (Blk wj.drew g7 31 [.slice b1 sl d1, .slice b2 el d2]) := Lib.hid (Twj.out.below hBz Twj.out.lt)
          have ZX0 : Hid (Blk wj.drew gz 31 [.slice none 0 0, .slice none 0 0]) := Lib.hid (Zwj.out.below hBz Zwj.out.lt)
          have BX0 : Hid (Below w.heap.size w wj.drew) := Lib.hid (Bwj.out.trans (hBz.mono Bwj.out.size))
          have SX0 : Hid (SpotRow wj.drew b1 sp) := Lib.hid (Swj.out.below hBz)
          have EX0 : Hid (EdgeRow wj.drew b2 E) := Lib.hid (Ewj.out.below hBz)
          have CX0 : Hid (wj.drew.cell? ⟨bn, on + i, none⟩ = some (.int .i64 ni)) := Lib.hid ((hBz.cell (p := ⟨bn, on + i, none⟩) (World.block_lt_of_cell? _ _ Cwj.out)).trans Cwj.out)
          have DX0 : Hid (wj.drew.cell? ⟨ba, oa + i, none⟩ = some (.int .u64 ai)) := Lib.hid ((hBz.cell (p := ⟨ba, oa + i, none⟩) (World.block_lt_of_cell? _ _ Dwj.out)).trans Dwj.out)
          clear hBz
          refine wp_region_held_drew (S := fun w' => Blk w' g7 31 [.slice b1 sl d1, .slice b2 el d2] ∧ Blk w' gr 89 [.slice (some ⟨bn, on, none⟩) n nc, .slice (some ⟨bg, og, none⟩) m gc, .slice (some ⟨ba, oa, none⟩) k ac] ∧ w'.cell? ⟨bn, on + i, none⟩ = some (.int .i64 ni) ∧ w'.cell? ⟨ba, oa + i, none⟩ = some (.int .u64 ai)) (by kernel_rfl) (⟨TX0.out, RX0.out, CX0.out, DX0.out⟩) (fun hHeld => ?_)
          generalize wj.drew = X0 at hHeld RX0 TX0 ZX0 BX0 SX0 EX0 CX0 DX0 ⊢
          refine wpAnyH_take (i := 0) (v := .agg #[.slice b1 sl d1, .slice b2 el d2]) rfl (by kernel_rfl) (by kernel_rfl) (by kernel_rfl) (fun _ _ _ h => h) (Or.inl ⟨by rfl, by intro w' h; have k0 := Blk.cell h.1 0; have k1 := Blk.cell h.1 1; simp only [List.getElem?_cons_zero, List.getElem?_cons_succ] at k0 k1; go_simp⟩) hHeld ?_
          show wpAnyH _ _ _ _ _ _ _ (Act.put _ (some 52) _) _
          simp only [Act.put, List.setIfInBounds_toArray, List.set_cons_zero, List.set_cons_succ]
          refine wpAnyH_take (i := 1) (v := .int .i64 gi) rfl (by kernel_rfl) (by kernel_rfl) (by kernel_rfl) (fun _ _ _ h => h) (Or.inl ⟨by rfl, fun w _ => by rfl⟩) hHeld ?_
          show wpAnyH _ _ _ _ _ _ _ (Act.put _ (some 53) _) _
          simp only [Act.put, List.setIfInBounds_toArray, List.set_cons_zero, List.set_cons_succ]
          refine wpAnyH_take (i := 2) (v := .pointer (some ⟨gr, 0, none⟩)) rfl (by kernel_rfl) (by kernel_rfl) (by kernel_rfl) (fun _ _ _ h => h) (Or.inl ⟨by rfl, by intro w' h; go_simp⟩) hHeld ?_
          show wpAnyH _ _ _ _ _ _ _ (Act.put _ (some 54) _) _
          simp only [Act.put, List.setIfInBounds_toArray, List.set_cons_zero, List.set_cons_succ]
          refine wpAnyH_take (i := 3) (v := .slice (some ⟨bn, on, none⟩) n nc) rfl (by kernel_rfl) (by kernel_rfl) (by kernel_rfl) (fun _ _ _ h => h) (Or.inl ⟨by rfl, by intro w' h; have k0 := Blk.cell h.2.1 0; simp only [List.getElem?_cons_zero] at k0; go_simp⟩) hHeld ?_
          show wpAnyH _ _ _ _ _ _ _ (Act.put _ (some 55) _) _
          simp only [Act.put, List.setIfInBounds_toArray, List.set_cons_zero, List.set_cons_succ]
          refine wpAnyH_take (i := 4) (v := .int .i64 (i : Int)) rfl (by kernel_rfl) (by kernel_rfl) (by kernel_rfl) (fun _ _ _ h => h) (Or.inl ⟨by rfl, fun w _ => by rfl⟩) hHeld ?_
          show wpAnyH _ _ _ _ _ _ _ (Act.put _ (some 56) _) _
          simp only [Act.put, List.setIfInBounds_toArray, List.set_cons_zero, List.set_cons_succ]
          refine wpAnyH_take (i := 5) (v := .pointer (some ⟨bn, on + i, none⟩)) rfl (by kernel_rfl) (by kernel_rfl) (by kernel_rfl) (fun _ _ _ h => h) (Or.inl ⟨by rfl, by intro w' h; have nn := Hnn.out; go_simp⟩) hHeld ?_
          show wpAnyH _ _ _ _ _ _ _ (Act.put _ (some 57) _) _
          simp only [Act.put, List.setIfInBounds_toArray, List.set_cons_zero, List.set_cons_succ]
          refine wpAnyH_take (i := 6) (v := .int .i64 ni) rfl (by kernel_rfl) (by kernel_rfl) (by kernel_rfl) (fun _ _ _ h => h) (Or.inl ⟨by rfl, by intro w' h; have q9 := h.2.2.1; go_simp⟩) hHeld ?_
          show wpAnyH _ _ _ _ _ _ _ (Act.put _ (some 58) _) _
          simp only [Act.put, List.setIfInBounds_toArray, List.set_cons_zero, List.set_cons_succ]
          refine wpAnyH_take (i := 7) (v := .pointer (some ⟨gr, 2, none⟩)) rfl (by kernel_rfl) (by kernel_rfl) (by kernel_rfl) (fun _ _ _ h => h) (Or.inl ⟨by rfl, by intro w' h; go_simp⟩) hHeld ?_
          show wpAnyH _ _ _ _ _ _ _ (Act.put _ (some 59) _) _
          simp only [Act.put, List.setIfInBounds_toArray, List.set_cons_zero, List.set_cons_succ]
          refine wpAnyH_take (i := 8) (v := .slice (some ⟨ba, oa, none⟩) k ac) rfl (by kernel_rfl) (by kernel_rfl) (by kernel_rfl) (fun _ _ _ h => h) (Or.inl ⟨by rfl, by intro w' h; have k0 := Blk.cell h.2.1 2; simp only [List.getElem?_cons_zero, List.getElem?_cons_succ] at k0; go_simp⟩) hHeld ?_
          show wpAnyH _ _ _ _ _ _ _ (Act.put _ (some 60) _) _
          simp only [Act.put, List.setIfInBounds_toArray, List.set_cons_zero, List.set_cons_succ]
          refine wpAnyH_take (i := 9) (v := .int .i64 (i : Int)) rfl (by kernel_rfl) (by kernel_rfl) (by kernel_rfl) (fun _ _ _ h => h) (Or.inl ⟨by rfl, fun w _ => by rfl⟩) hHeld ?_
          show wpAnyH _ _ _ _ _ _ _ (Act.put _ (some 61) _) _
          simp only [Act.put, List.setIfInBounds_toArray, List.set_cons_zero, List.set_cons_succ]
          refine wpAnyH_take (i := 10) (v := .pointer (some ⟨ba, oa + i, none⟩)) rfl (by kernel_rfl) (by kernel_rfl) (by kernel_rfl) (fun _ _ _ h => h) (Or.inl ⟨by rfl, by intro w' h; have kk := Hkk.out; go_simp⟩) hHeld ?_
          show wpAnyH _ _ _ _ _ _ _ (Act.put _ (some 62) _) _
          simp only [Act.put, List.setIfInBounds_toArray, List.set_cons_zero, List.set_cons_succ]
          refine wpAnyH_take (i := 11) (v := .int .u64 ai) rfl (by kernel_rfl) (by kernel_rfl) (by kernel_rfl) (fun _ _ _ h => h) (Or.inl ⟨by rfl, by intro w' h; have q9 := h.2.2.2; go_simp⟩) hHeld ?_
          show wpAnyH _ _ _ _ _ _ _ (Act.put _ (some 63) _) _
          simp only [Act.put, List.setIfInBounds_toArray, List.set_cons_zero, List.set_cons_succ]
          refine wpAnyH_ready (rs := [12, 16]) (by kernel_rfl) (by simp) ?_
          refine AllReadyH.cons rfl (fun K hK => ?_) (AllReadyH.cons rfl (fun K hK => ?_) AllReadyH.nil)
          · refine step_call rfl 27 #[.tmp 52, .tmp 53, .tmp 58, .tmp 63] #[31, 3, 3, 40] rfl #[.agg #[.slice b1 sl d1, .slice b2 el d2], .int .i64 gi, .int .i64 ni, .int .u64 ai] (by simp [Act.eval]) (by go_simp) (sent_any (.agg #[.slice b1 sl d1, .slice b2 el d2]) sp E gi ni ai X0 ⟨b1, d1, b2, d2, by rw [HSL.out, HOE.out.2, HEL.out], SX0.out, EX0.out, HN1.out, HN2.out⟩ (by rw [HSL.out]; omega) (by rw [HOE.out.2, HEL.out]; omega) HOE.out.1 HWA.out) ?_
            rintro e X1 ⟨v, rfl, hB, _, hv⟩
            obtain rfl := hv (by rw [HSL.out, HEE.out]; exact HNZ.out)
            rw [HSL.out, HEE.out]
            have RX1 : Hid (Blk X1 gr 89 [.slice (some ⟨bn, on, none⟩) n nc, .slice (some ⟨bg, og, none⟩) m gc, .slice (some ⟨ba, oa, none⟩) k ac]) := Lib.hid (RX0.out.below hB RX0.out.lt)
            have TX1 : Hid (Blk X1 g7 31 [.slice b1 sl d1, .slice b2 el d2]) := Lib.hid (TX0.out.below hB TX0.out.lt)
            have ZX1 : Hid (Blk X1 gz 31 [.slice none 0 0, .slice none 0 0]) := Lib.hid (ZX0.out.below hB ZX0.out.lt)
            have BX1 : Hid (Below w.heap.size w X1) := Lib.hid (BX0.out.trans (hB.mono BX0.out.size))
            have SX1 : Hid (SpotRow X1 b1 sp) := Lib.hid (SX0.out.below hB)
            have EX1 : Hid (EdgeRow X1 b2 E) := Lib.hid (EX0.out.below hB)
            have CX1 : Hid (X1.cell? ⟨bn, on + i, none⟩ = some (.int .i64 ni)) := Lib.hid ((hB.cell (p := ⟨bn, on + i, none⟩) (World.block_lt_of_cell? _ _ CX0.out)).trans CX0.out)
            have DX1 : Hid (X1.cell? ⟨ba, oa + i, none⟩ = some (.int .u64 ai)) := Lib.hid ((hB.cell (p := ⟨ba, oa + i, none⟩) (World.block_lt_of_cell? _ _ DX0.out)).trans DX0.out)
            clear RX0 TX0 ZX0 BX0 SX0 EX0 CX0 DX0 hB hv
            refine ⟨_, rfl, hK.out _ _ (⟨TX1.out, RX1.out, CX1.out, DX1.out⟩) (fun hHeld => ?_)⟩
            clear hK K
            show wpAnyH _ _ _ _ _ _ _ (Act.put _ (some 64) _) _
            simp only [Act.put, List.setIfInBounds_toArray, List.set_cons_zero, List.set_cons_succ]
            refine wpAnyH_take (i := 13) (v := .tuple #[.agg #[.slice none 0 0, .slice none 0 0], .int .i64 er]) rfl (by kernel_rfl) (by kernel_rfl) (by kernel_rfl) (fun _ _ _ h => h) (Or.inl ⟨by rfl, fun w _ => by rfl⟩) hHeld ?_
            show wpAnyH _ _ _ _ _ _ _ (Act.put _ (some 51) _) _
            simp only [Act.put, List.setIfInBounds_toArray, List.set_cons_zero, List.set_cons_succ]
            refine wpAnyH_take (i := 14) (v := .agg #[.slice none 0 0, .slice none 0 0]) rfl (by kernel_rfl) (by kernel_rfl) (by kernel_rfl) (fun _ _ _ h => h) (Or.inl ⟨by rfl, by intro w' h; go_simp⟩) hHeld ?_
            show wpAnyH _ _ _ _ _ _ _ (Act.put _ (some 65) _) _
            simp only [Act.put, List.setIfInBounds_toArray, List.set_cons_zero, List.set_cons_succ]
            refine wpAnyH_take (i := 15) (v := .int .i64 er) rfl (by kernel_rfl) (by kernel_rfl) (by kernel_rfl) (fun _ _ _ h => h) (Or.inl ⟨by rfl, by intro w' h; go_simp⟩) hHeld ?_
            show wpAnyH _ _ _ _ _ _ _ (Act.put _ (some 66) _) _
            simp only [Act.put, List.setIfInBounds_toArray, List.set_cons_zero, List.set_cons_succ]
            refine wpAnyH_ready (rs := [16]) (by kernel_rfl) (by simp) ?_
            refine AllReadyH.cons rfl (fun K hK => ?_) AllReadyH.nil
            refine step_web rfl rfl ?_
            intro X2 g9 hT hg9 hB
            have HZM : Hid (gz ≠ g9) := Lib.hid (by have := ZX1.out.lt; omega)
            have H7N : Hid (g7 ≠ g9) := Lib.hid (by have := TX1.out.lt; omega)
            have HGM : Hid (w.heap.size ≤ g9) := Lib.hid (Nat.le_trans BX1.out.size hg9)
            have RX2 : Hid (Blk X2 gr 89 [.slice (some ⟨bn, on, none⟩) n nc, .slice (some ⟨bg, og, none⟩) m gc, .slice (some ⟨ba, oa, none⟩) k ac]) := Lib.hid (RX1.out.below hB RX1.out.lt)
            have TX2 : Hid (Blk X2 g7 31 [.slice b1 sl d1, .slice b2 el d2]) := Lib.hid (TX1.out.below hB TX1.out.lt)
            have ZX2 : Hid (Blk X2 gz 31 [.slice none 0 0, .slice none 0 0]) := Lib.hid (ZX1.out.below hB ZX1.out.lt)
            have BX2 : Hid (Below w.heap.size w X2) := Lib.hid (BX1.out.trans (hB.mono BX1.out.size))
            have SX2 : Hid (SpotRow X2 b1 sp) := Lib.hid (SX1.out.below hB)
            have EX2 : Hid (EdgeRow X2 b2 E) := Lib.hid (EX1.out.below hB)
            have CX2 : Hid (X2.cell? ⟨bn, on + i, none⟩ = some (.int .i64 ni)) := Lib.hid ((hB.cell (p := ⟨bn, on + i, none⟩) (World.block_lt_of_cell? _ _ CX1.out)).trans CX1.out)
            have DX2 : Hid (X2.cell? ⟨ba, oa + i, none⟩ = some (.int .u64 ai)) := Lib.hid ((hB.cell (p := ⟨ba, oa + i, none⟩) (World.block_lt_of_cell? _ _ DX1.out)).trans DX1.out)
            have NX2 : Hid (Blk X2 g9 31 [.slice none 0 0, .slice none 0 0]) := Lib.hid (hT)
            clear RX1 TX1 ZX1 BX1 SX1 EX1 CX1 DX1 hB hT hg9
            refine hK.out _ _ (⟨TX2.out, RX2.out, CX2.out, DX2.out⟩) (fun hHeld => ?_)
            clear hK K
            show wpAnyH _ _ _ _ _ _ _ (Act.put _ (some 10) _) _
            simp only [Act.put, List.setIfInBounds_toArray, List.set_cons_zero, List.set_cons_succ]
            refine wpAnyH_ready (rs := [17]) (by kernel_rfl) (by simp) ?_
            refine AllReadyH.cons rfl (fun K hK => ?_) AllReadyH.nil
            refine step_put31 rfl (.tmp 10) (.tmp 65) rfl g9 _ _ none none 0 0 0 0 rfl rfl NX2.out ?_
            intro X3 hT hO
            have RX3 : Hid (Blk X3 gr 89 [.slice (some ⟨bn, on, none⟩) n nc, .slice (some ⟨bg, og, none⟩) m gc, .slice (some ⟨ba, oa, none⟩) k ac]) := Lib.hid (RX2.out.grown hO (by intro e9; injection e9 with e9; exact Blk.ne_ RX2.out NX2.out (by decide) e9))
            have TX3 : Hid (Blk X3 g7 31 [.slice b1 sl d1, .slice b2 el d2]) := Lib.hid (TX2.out.grown hO (by intro e9; injection e9 with e9; exact H7N.out e9))
            have ZX3 : Hid (Blk X3 gz 31 [.slice none 0 0, .slice none 0 0]) := Lib.hid (ZX2.out.grown hO (by intro e9; injection e9 with e9; exact HZM.out e9))
            have BX3 : Hid (Below w.heap.size w X3) := Lib.hid (BX2.out.trans (only_up hO HGM.out BX2.out.size))
            have SX3 : Hid (SpotRow X3 b1 sp) := Lib.hid (SX2.out.grown NX2.out (slices2 none none 0 0 0 0) hO)
            have EX3 : Hid (EdgeRow X3 b2 E) := Lib.hid (EX2.out.grown NX2.out (slices2 none none 0 0 0 0) hO)
            have CX3 : Hid (X3.cell? ⟨bn, on + i, none⟩ = some (.int .i64 ni)) := Lib.hid (hO.cell CX2.out (by intro e9; injection e9 with e9; exact cell_ne (x := ni) (k := .i64) CX2.out NX2.out e9))
            have DX3 : Hid (X3.cell? ⟨ba, oa + i, none⟩ = some (.int .u64 ai)) := Lib.hid (hO.cell DX2.out (by intro e9; injection e9 with e9; exact cell_ne (x := ai) (k := .u64) DX2.out NX2.out e9))
            have NX3 : Hid (Blk X3 g9 31 [.slice none 0 0, .slice none 0 0]) := Lib.hid (hT)
            clear RX2 TX2 ZX2 BX2 SX2 EX2 CX2 DX2 hO hT
            refine hK.out _ _ (⟨TX3.out, RX3.out, CX3.out, DX3.out⟩) (fun hHeld => ?_)
            clear hK K
            show wpAnyH _ _ _ _ _ _ _ (Act.put _ none _) _
            simp only [Act.put]
            refine wpAnyH_take (i := 18) (v := .int .i64 er) rfl (by kernel_rfl) (by kernel_rfl) (by kernel_rfl) (fun _ _ _ h => h) (Or.inl ⟨by rfl, fun w _ => by rfl⟩) hHeld ?_
            show wpAnyH _ _ _ _ _ _ _ (Act.put _ (some 11) _) _
            simp only [Act.put, List.setIfInBounds_toArray, List.set_cons_zero, List.set_cons_succ]
            refine wpAnyH_done (by kernel_rfl) ?_ _
            clear hHeld
            have b0 : (er != 0) = true := by have h := HNZ.out; simpa using h
            have z0 := ZX3.out.cell 0
            have z1 := ZX3.out.cell 1
            simp only [List.getElem?_cons_zero, List.getElem?_cons_succ] at z0 z1
            have fz0 := ZX3.out.frozen 0
            have fz1 := ZX3.out.frozen 1
            go_wp2
            exact bodyPost_ret (results58 Try.results42 _ _ gz 31 none none 0 0 0 0 _ rfl rfl (Blk.set_ (Blk.set_ ZX3.out 0 (.slice none 0 0)) 1 (.slice none 0 0))) rfl (GoPost.bad HXE.out HNZ.out ((BX3.out.setCell (p := ⟨gz, 0, none⟩) hgr _).setCell (p := ⟨gz, 1, none⟩) hgr _))
          · refine step_web rfl rfl ?_
            intro X1 g9 hT hg9 hB
            have HZM : Hid (gz ≠ g9) := Lib.hid (by have := ZX0.out.lt; omega)
            have H7N : Hid (g7 ≠ g9) := Lib.hid (by have := TX0.out.lt; omega)
            have HGM : Hid (w.heap.size ≤ g9) := Lib.hid (Nat.le_trans BX0.out.size hg9)
            have RX1 : Hid (Blk X1 gr 89 [.slice (some ⟨bn, on, none⟩) n nc, .slice (some ⟨bg, og, none⟩) m gc, .slice (some ⟨ba, oa, none⟩) k ac]) := Lib.hid (RX0.out.below hB RX0.out.lt)
            have TX1 : Hid (Blk X1 g7 31 [.slice b1 sl d1, .slice b2 el d2]) := Lib.hid (TX0.out.below hB TX0.out.lt)
            have ZX1 : Hid (Blk X1 gz 31 [.slice none 0 0, .slice none 0 0]) := Lib.hid (ZX0.out.below hB ZX0.out.lt)
            have BX1 : Hid (Below w.heap.size w X1) := Lib.hid (BX0.out.trans (hB.mono BX0.out.size))
            have SX1 : Hid (SpotRow X1 b1 sp) := Lib.hid (SX0.out.below hB)
            have EX1 : Hid (EdgeRow X1 b2 E) := Lib.hid (EX0.out.below hB)
            have CX1 : Hid (X1.cell? ⟨bn, on + i, none⟩ = some (.int .i64 ni)) := Lib.hid ((hB.cell (p := ⟨bn, on + i, none⟩) (World.block_lt_of_cell? _ _ CX0.out)).trans CX0.out)
            have DX1 : Hid (X1.cell? ⟨ba, oa + i, none⟩ = some (.int .u64 ai)) := Lib.hid ((hB.cell (p := ⟨ba, oa + i, none⟩) (World.block_lt_of_cell? _ _ DX0.out)).trans DX0.out)
            have NX1 : Hid (Blk X1 g9 31 [.slice none 0 0, .slice none 0 0]) := Lib.hid (hT)
            clear RX0 TX0 ZX0 BX0 SX0 EX0 CX0 DX0 hB hT hg9
            refine hK.out _ _ (⟨TX1.out, RX1.out, CX1.out, DX1.out⟩) (fun hHeld => ?_)
            clear hK K
            show wpAnyH _ _ _ _ _ _ _ (Act.put _ (some 10) _) _
            simp only [Act.put, List.setIfInBounds_toArray, List.set_cons_zero, List.set_cons_succ]
            refine wpAnyH_ready (rs := [12]) (by kernel_rfl) (by simp) ?_
            refine AllReadyH.cons rfl (fun K hK => ?_) AllReadyH.nil
            refine step_call rfl 27 #[.tmp 52, .tmp 53, .tmp 58, .tmp 63] #[31, 3, 3, 40] rfl #[.agg #[.slice b1 sl d1, .slice b2 el d2], .int .i64 gi, .int .i64 ni, .int .u64 ai] (by simp [Act.eval]) (by go_simp) (sent_any (.agg #[.slice b1 sl d1, .slice b2 el d2]) sp E gi ni ai X1 ⟨b1, d1, b2, d2, by rw [HSL.out, HOE.out.2, HEL.out], SX1.out, EX1.out, HN1.out, HN2.out⟩ (by rw [HSL.out]; omega) (by rw [HOE.out.2, HEL.out]; omega) HOE.out.1 HWA.out) ?_
            rintro e X2 ⟨v, rfl, hB, _, hv⟩
            obtain rfl := hv (by rw [HSL.out, HEE.out]; exact HNZ.out)
            rw [HSL.out, HEE.out]
            have RX2 : Hid (Blk X2 gr 89 [.slice (some ⟨bn, on, none⟩) n nc, .slice (some ⟨bg, og, none⟩) m gc, .slice (some ⟨ba, oa, none⟩) k ac]) := Lib.hid (RX1.out.below hB RX1.out.lt)
            have TX2 : Hid (Blk X2 g7 31 [.slice b1 sl d1, .slice b2 el d2]) := Lib.hid (TX1.out.below hB TX1.out.lt)
            have ZX2 : Hid (Blk X2 gz 31 [.slice none 0 0, .slice none 0 0]) := Lib.hid (ZX1.out.below hB ZX1.out.lt)
            have BX2 : Hid (Below w.heap.size w X2) := Lib.hid (BX1.out.trans (hB.mono BX1.out.size))
            have SX2 : Hid (SpotRow X2 b1 sp) := Lib.hid (SX1.out.below hB)
            have EX2 : Hid (EdgeRow X2 b2 E) := Lib.hid (EX1.out.below hB)
            have CX2 : Hid (X2.cell? ⟨bn, on + i, none⟩ = some (.int .i64 ni)) := Lib.hid ((hB.cell (p := ⟨bn, on + i, none⟩) (World.block_lt_of_cell? _ _ CX1.out)).trans CX1.out)
            have DX2 : Hid (X2.cell? ⟨ba, oa + i, none⟩ = some (.int .u64 ai)) := Lib.hid ((hB.cell (p := ⟨ba, oa + i, none⟩) (World.block_lt_of_cell? _ _ DX1.out)).trans DX1.out)
            have NX2 : Hid (Blk X2 g9 31 [.slice none 0 0, .slice none 0 0]) := Lib.hid (NX1.out.below hB NX1.out.lt)
            clear RX1 TX1 ZX1 BX1 SX1 EX1 CX1 DX1 NX1 hB hv
            refine ⟨_, rfl, hK.out _ _ (⟨TX2.out, RX2.out, CX2.out, DX2.out⟩) (fun hHeld => ?_)⟩
            clear hK K
            show wpAnyH _ _ _ _ _ _ _ (Act.put _ (some 64) _) _
            simp only [Act.put, List.setIfInBounds_toArray, List.set_cons_zero, List.set_cons_succ]
            refine wpAnyH_take (i := 13) (v := .tuple #[.agg #[.slice none 0 0, .slice none 0 0], .int .i64 er]) rfl (by kernel_rfl) (by kernel_rfl) (by kernel_rfl) (fun _ _ _ h => h) (Or.inl ⟨by rfl, fun w _ => by rfl⟩) hHeld ?_
            show wpAnyH _ _ _ _ _ _ _ (Act.put _ (some 51) _) _
            simp only [Act.put, List.setIfInBounds_toArray, List.set_cons_zero, List.set_cons_succ]
            refine wpAnyH_take (i := 14) (v := .agg #[.slice none 0 0, .slice none 0 0]) rfl (by kernel_rfl) (by kernel_rfl) (by kernel_rfl) (fun _ _ _ h => h) (Or.inl ⟨by rfl, by intro w' h; go_simp⟩) hHeld ?_
            show wpAnyH _ _ _ _ _ _ _ (Act.put _ (some 65) _) _
            simp only [Act.put, List.setIfInBounds_toArray, List.set_cons_zero, List.set_cons_succ]
            refine wpAnyH_take (i := 15) (v := .int .i64 er) rfl (by kernel_rfl) (by kernel_rfl) (by kernel_rfl) (fun _ _ _ h => h) (Or.inl ⟨by rfl, by intro w' h; go_simp⟩) hHeld ?_
            show wpAnyH _ _ _ _ _ _ _ (Act.put _ (some 66) _) _
            simp only [Act.put, List.setIfInBounds_toArray, List.set_cons_zero, List.set_cons_succ]
            refine wpAnyH_ready (rs := [17]) (by kernel_rfl) (by simp) ?_
            refine AllReadyH.cons rfl (fun K hK => ?_) AllReadyH.nil
            refine step_put31 rfl (.tmp 10) (.tmp 65) rfl g9 _ _ none none 0 0 0 0 rfl rfl NX2.out ?_
            intro X3 hT hO
            have RX3 : Hid (Blk X3 gr 89 [.slice (some ⟨bn, on, none⟩) n nc, .slice (some ⟨bg, og, none⟩) m gc, .slice (some ⟨ba, oa, none⟩) k ac]) := Lib.hid (RX2.out.grown hO (by intro e9; injection e9 with e9; exact Blk.ne_ RX2.out NX2.out (by decide) e9))
            have TX3 : Hid (Blk X3 g7 31 [.slice b1 sl d1, .slice b2 el d2]) := Lib.hid (TX2.out.grown hO (by intro e9; injection e9 with e9; exact H7N.out e9))
            have ZX3 : Hid (Blk X3 gz 31 [.slice none 0 0, .slice none 0 0]) := Lib.hid (ZX2.out.grown hO (by intro e9; injection e9 with e9; exact HZM.out e9))
            have BX3 : Hid (Below w.heap.size w X3) := Lib.hid (BX2.out.trans (only_up hO HGM.out BX2.out.size))
            have SX3 : Hid (SpotRow X3 b1 sp) := Lib.hid (SX2.out.grown NX2.out (slices2 none none 0 0 0 0) hO)
            have EX3 : Hid (EdgeRow X3 b2 E) := Lib.hid (EX2.out.grown NX2.out (slices2 none none 0 0 0 0) hO)
            have CX3 : Hid (X3.cell? ⟨bn, on + i, none⟩ = some (.int .i64 ni)) := Lib.hid (hO.cell CX2.out (by intro e9; injection e9 with e9; exact cell_ne (x := ni) (k := .i64) CX2.out NX2.out e9))
            have DX3 : Hid (X3.cell? ⟨ba, oa + i, none⟩ = some (.int .u64 ai)) := Lib.hid (hO.cell DX2.out (by intro e9; injection e9 with e9; exact cell_ne (x := ai) (k := .u64) DX2.out NX2.out e9))
            have NX3 : Hid (Blk X3 g9 31 [.slice none 0 0, .slice none 0 0]) := Lib.hid (hT)
            clear RX2 TX2 ZX2 BX2 SX2 EX2 CX2 DX2 hO hT
            refine hK.out _ _ (⟨TX3.out, RX3.out, CX3.out, DX3.out⟩) (fun hHeld => ?_)
            clear hK K
            show wpAnyH _ _ _ _ _ _ _ (Act.put _ none _) _
            simp only [Act.put]
            refine wpAnyH_take (i := 18) (v := .int .i64 er) rfl (by kernel_rfl) (by kernel_rfl) (by kernel_rfl) (fun _ _ _ h => h) (Or.inl ⟨by rfl, fun w _ => by rfl⟩) hHeld ?_
            show wpAnyH _ _ _ _ _ _ _ (Act.put _ (some 11) _) _
            simp only [Act.put, List.setIfInBounds_toArray, List.set_cons_zero, List.set_cons_succ]
            refine wpAnyH_done (by kernel_rfl) ?_ _
            clear hHeld
            have b0 : (er != 0) = true := by have h := HNZ.out; simpa using h
            have z0 := ZX3.out.cell 0
            have z1 := ZX3.out.cell 1
            simp only [List.getElem?_cons_zero, List.getElem?_cons_succ] at z0 z1
            have fz0 := ZX3.out.frozen 0
            have fz1 := ZX3.out.frozen 1
            go_wp2
            exact bodyPost_ret (results58 Try.results42 _ _ gz 31 none none 0 0 0 0 _ rfl rfl (Blk.set_ (Blk.set_ ZX3.out 0 (.slice none 0 0)) 1 (.slice none 0 0))) rfl (GoPost.bad HXE.out HNZ.out ((BX3.out.setCell (p := ⟨gz, 0, none⟩) hgr _).setCell (p := ⟨gz, 1, none⟩) hgr _))
      · have him : i = m := Nat.le_antisymm hi (Nat.le_of_not_lt hil)
        subst him
        have hgz7 := HZN.out
        have t0 := Tw.out.cell 0
        have t1 := Tw.out.cell 1
        have z0 := Zw.out.cell 0
        have z1 := Zw.out.cell 1
        simp only [List.getElem?_cons_zero, List.getElem?_cons_succ] at t0 t1 z0 z1
        have fz0 := Zw.out.frozen 0
        have fz1 := Zw.out.frozen 1
        have hO : wj.grownBy ((wj.setCell ⟨gz, 0, none⟩ (.slice b1 sl d1)).setCell ⟨gz, 1, none⟩ (.slice b2 el d2)) (some gz) := only_setCell (p := ⟨gz, 1, none⟩) (only_setCell (p := ⟨gz, 0, none⟩) (only_refl wj _) (.inl rfl) _) (.inl rfl) _
        have HO := Lib.hid hO
        have RZ := Lib.hid (Blk.set_ (Blk.set_ Zw.out 0 (.slice b1 sl d1)) 1 (.slice b2 el d2))
        clear hO
        go_wp2
        exact bodyPost_ret (results58 Try.results42 _ _ gz 31 b1 b2 sl el d1 d2 _ rfl rfl RZ.out) rfl ⟨_, by rw [HX.out.1, HGO.out]; rfl, ((Bw.out.setCell (p := ⟨gz, 0, none⟩) hgr _).setCell (p := ⟨gz, 1, none⟩) hgr _), fun _ => ⟨b1, d1, b2, d2, by rw [HX.out.2, HGO.out, HSL.out, HOE.out.2, HEL.out], Sw.out.grown Zw.out (slices2 none none 0 0 0 0) HO.out, by rw [HX.out.2, HGO.out]; exact Ew.out.grown Zw.out (slices2 none none 0 0 0 0) HO.out, HN1.out, by rw [HX.out.2, HGO.out]; exact HN2.out⟩, fun h9 => absurd (by rw [HX.out.1, HGO.out]) h9⟩

theorem go_any (na ga aa : Option Addr) (n nc m gc k ac : Nat) (ns gs am : List Int) (sa : Option Addr) (sl sc : Nat) (ea : Option Addr) (el ec : Nat) (sp : List (Int × Int)) (es : List Ed) (w : World) (hN : IRow w na ns) (hG : IRow w ga gs) (hA : Mon.Nums w aa am) (hn : ns.length = n) (hm : gs.length = m) (hk : am.length = k) (hn2 : n ≤ 1000) (hm2 : m ≤ 1000) (hk2 : k ≤ 1000) (hS : SpotRow w sa sp) (hE : EdgeRow w ea es) (hsl : sp.length = sl) (hel : es.length = el) (hs2 : sl ≤ 1000) (he2 : el ≤ 1000) (hsn : sa = none → sp = [] ∧ sc = 0) (hen : ea = none → es = [] ∧ ec = 0) (hok : ∀ e ∈ es, EdOk e) (ha : ∀ x ∈ am, Word x) :
    Calls Try.prog 42 #[.agg #[.slice na n nc, .slice ga m gc, .slice aa k ac], .agg #[.slice sa sl sc, .slice ea el ec]] w (GoPost w sp es ns gs am) := by
  by_cases h1 : m = k ∧ n = m + 1
  · by_cases h2 : checkE sl es = 0
    · exact go_good na ga aa n nc m gc k ac ns gs am sa sl sc ea el ec sp es w hN hG hA hn hm hk hn2 hm2 hk2 hS hE hsl hel hs2 he2 hsn hen hok ha ⟨h1.1, h1.2, h2⟩
    · exact go_check na ga aa n nc m gc k ac ns gs am sa sl sc ea el ec sp es w hN hG hA hn hm hk hn2 hm2 hk2 hS hE hsl hel hs2 he2 hsn hen hok ha ⟨h1.1, h1.2, h2⟩
  · exact go_arg na ga aa n nc m gc k ac ns gs am sa sl sc ea el ec sp es w hN hG hA hn hm hk hn2 hm2 hk2 hS hE hsl hel hs2 he2 hsn hen hok ha (by omega)
end Go.Proofs.Ytnnimjaigciedaa
