/-
  What PathSound looks at along one route (its inner loop).
-/
import Derived.Test.YtnnimjaigciedaaPathW
import Derived.BigQuiet
import Derived.IntWalk
namespace Go.Proofs.Ytnnimjaigciedaa.pathSound
open Go.ChangeShapes Go.WideShapes Go.ChangeAt Go.RowKit
set_option linter.unusedVariables false


theorem step_words {sl : Nat} {es : List Ed} {src : Int} {l : List Int} {s : List Stp} (hok : ∀ e ∈ es, EdOk e) (h : Leads sl es src l s) : ∀ q ∈ s, Word q.b ∧ Word q.r := by
  intro q hq
  obtain ⟨i, hi, he⟩ := List.getElem_of_mem hq
  have := (h.2.2.2 i hi).2
  have e9 : s.getD i stp00 = q := by rw [List.getD_eq_getElem?_getD, List.getElem?_eq_getElem hi]; exact he
  rw [e9] at this
  exact steps_word hok q this
theorem node_i64 {sl : Nat} {es : List Ed} {src : Int} {l : List Int} {s : List Stp} (hok : ∀ e ∈ es, EdOk e) (h : Leads sl es src l s) (hs : I64 src) {i : Nat} (hi : i < l.length) : I64 (l.getD i 0) := by
  cases i with
  | zero => rw [h.2.1]; exact hs
  | succ i =>
    have h1 := h.1
    obtain ⟨k, e, hk, he, _, h2⟩ := h.edge (i := i) (by omega)
    have hm : e ∈ es := by rw [← he, List.getD_eq_getElem?_getD, List.getElem?_eq_getElem hk]; exact List.getElem_mem _
    obtain ⟨ho1, ho2, _⟩ := hok e hm
    rcases h2 with ⟨_, h3, _⟩ | ⟨_, h3, _⟩
    · rw [← h3]; exact ho2
    · rw [← h3]; exact ho1
theorem take_next {l : List Int} {i : Nat} (hi : i < l.length) : l.take i ++ [l.getD i 0] = l.take (i + 1) := by
  rw [List.take_add_one, List.getD_eq_getElem?_getD, List.getElem?_eq_getElem hi]; rfl
theorem stE_at {s : List Stp} {i : Nat} (h : i < s.length) : (stE s).getD i 0 = (s.getD i stp00).e := by
  unfold stE
  rw [List.getD_eq_getElem?_getD, List.getD_eq_getElem?_getD, List.getElem?_map, List.getElem?_eq_getElem h]; rfl
theorem src_i64 {sl : Nat} {es : List Ed} {src goal amt : Int} (h : seekE sl es src goal amt = 0) (hs : sl ≤ 20) : I64 src := by
  have h2 := (seek_ne h).2.1
  unfold hasB at h2
  have := of_decide_eq_true h2
  exact ⟨by omega, by omega⟩
theorem meas (n i : Nat) (h : i < n) : n - (intOf (.int .i64 ((i : Int) + 1))).toNat < n - (intOf (.int .i64 (i : Int))).toNat := by
  simp [intOf]; omega
theorem u64_wrap_id (x : Int) (h1 : 0 ≤ x) (h2 : x ≤ 18446744073709551615) : IntKind.u64.wrap x = x := by
  simp [IntKind.wrap, IntKind.signed, IntKind.bits]
  omega

def blockOf (k : Nat) : Code → Option Code
  | .block j c => if j = k then some (.block j c) else blockOf k c
  | .seq a b => match blockOf k a with
    | some c => some c
    | none => blockOf k b
  | .cond _ a b => match blockOf k a with
    | some c => some c
    | none => blockOf k b
  | .loop c => blockOf k c
  | .scope c => blockOf k c
  | _ => none
noncomputable def inner : Code := (Try.f12.body.bind (blockOf 2)).getD .skip
set_option maxRecDepth 1000000 in
set_option maxHeartbeats 16000000 in
theorem inner_any {c0 c1 c2 c3 c4 c5 c6 c7 c8 c10 c11 c12 c13 c14 c18 c19 c20 c21 c22 c23 c24 c25 c26 c27 c28 c29 c30 c31 c32 c33 c34 c35 c36 c37 c38 c39 c40 c41 c42 c43 c44 c45 c46 c47 c48 c49 c50 c51 c52 c53 c54 c55 c56 c57 c58 c59 c60 c61 c62 c63 c64 c65 c66 c67 c68 c69 c70 c71 c72 c73 c74 c75 c76 c77 c78 c79 c80 c81 c82 c83 c84 c85 c86 c87 c88 c89 c90 c91 c92 c93 c94 c95 c96 c97 c98 c99 c100 c101 c102 c103 c104 c105 c106 c107 c108 c109 c110 c111 c112 c113 c114 c115 c116 c117 c118 c119 c120 c121 c122 c123 c124 c125 c126 c127 c128 c129 c130 c131 c132 c133 c134 c135 c136 c137 c138 c139 c140 c141 c145 c146 c147 c148 c149 c150 c151 c152 c153 c154 c155 c156 c157 c158 c159 c160 c161 c162 c163 c164 c165 c166 c167 c168 c169 c170 c171 c172 c173 c174 c175 c176 c177 c178 c179 c180 c181 c182 c183 c184 c185 c186 c187 c188 c189 c190 c191 c192 c193 c194 c195 c196 c197 c198 c199 c200 c201 c202 c203 c204 c205 c206 c207 c208 c209 c210 c211 c212 c213 c214 c215 c216 c217 c218 c219 c220 c221 c222 c223 c224 c225 c226 c227 c228 c229 c230 c231 c232 : Value} {sl : Nat} {es : List Ed} {src goal amt : Int} {l : List Int} {s : List Stp} {el nl ns gq gt gm ln lg la nc gc ac gb bs ag N c bb n1 ncb n2 gcb acb sc1 ec1 : Nat} {nb gb0 sa1 ea1 : Option Addr} {acc : List Rt} {bf : Int} {w0 w : World} {Q : Exit → Act → World → Prop}
    (HSO : Hid (Sound sl es src goal amt (l, s))) (HOK : Hid (∀ e ∈ es, EdOk e)) (HSRC : Hid (I64 src)) (HEL : Hid (es.length = el)) (HNL : Hid (l.length = nl)) (HNS : Hid (s.length = ns)) (HNL1 : Hid (nl = ns + 1)) (HGR : Hid (PayOk amt s ∧ 0 < s.length ∧ (amtsE amt s).2.length = s.length)) (HFA : Hid ((∀ i, 0 < i → i < s.length → (amtsE amt s).2.getD i 0 ≤ (amtsE amt s).2.getD (i - 1) 0) ∧ (amtsE amt s).2.getD (s.length - 1) 0 = amt)) (hnsl : ns < nl)
    (Qw : Hid (Blk w gq 31 [.slice sa1 sl sc1, .slice ea1 el ec1])) (Ew : Hid (EdgeRow w ea1 es)) (Kw : Hid (Blk w gb 89 [.slice nb n1 ncb, .slice gb0 n2 gcb, .slice (some ⟨bb, 0, none⟩) n2 acb])) (Rw : Hid (w.ownsRow bs 89 3 (.slice (some ⟨ag, 0, none⟩) N c) N (rtflat acc))) (Ow : Hid (∀ r ∈ acc, RtOk w bs amt r)) (Cw : Hid (w.cell? ⟨bb, 0, none⟩ = some (.int .u64 bf))) (Bw : Hid (Below w0.heap.size w0 w)) (Nw : Hid (w.ownsRow bs 3 1 (.slice (some ⟨ln, 0, none⟩) nl nc) nl (ins l))) (Gw : Hid (w.ownsRow bs 3 1 (.slice (some ⟨lg, 0, none⟩) ns gc) ns (ins (stE s)))) (Aw : Hid (w.ownsRow bs 40 1 (.slice (some ⟨la, 0, none⟩) ns ac) ns (Mon.nums (amtsE amt s).2))) (Tw : Hid (Blk w gt 89 [.slice (some ⟨ln, 0, none⟩) nl nc, .slice (some ⟨lg, 0, none⟩) ns gc, .slice (some ⟨la, 0, none⟩) ns ac])) (Mw : Hid (SMap w gm [])) (hgm : w0.heap.size ≤ gm)
    (hpan : ∀ c (a : Act) (d : Nat) v w, Q (.panic c) (a.put (some d) v) w → Q (.panic c) a w) (hexit : ∀ {u8 u18 u19 u20 u144 u145 u146 u147 u148 u149 u150 u151 u152 u153 u154 u155 u156 u157 u158 u159 u160 u161 u162 u163 u164 u165 u166 u167 u168 u169 u170 u171 u172 u173 u174 u175 u176 u177 u178 u179 u180 u181 u182 u183 u184 u185 u186 u187 u188 u189 u190 u191 u192 u193 u194 u195 u196 u197 u198 u199 u200 u201 u202 u203 u204 u205 u206 u207 u208 u209 u210 u211 u212 u213 u214 u215 u216 u217 u218 u219 u220 u221 u222 u223 u224 u225 u226 u227 u228 u229 u230 : Value} (wd : World), Hid (Blk wd gq 31 [.slice sa1 sl sc1, .slice ea1 el ec1]) → Hid (EdgeRow wd ea1 es) → Hid (Blk wd gb 89 [.slice nb n1 ncb, .slice gb0 n2 gcb, .slice (some ⟨bb, 0, none⟩) n2 acb]) → Hid (wd.ownsRow bs 89 3 (.slice (some ⟨ag, 0, none⟩) N c) N (rtflat acc)) → Hid (∀ r ∈ acc, RtOk wd bs amt r) → Hid (wd.cell? ⟨bb, 0, none⟩ = some (.int .u64 bf)) → Hid (Below w0.heap.size w0 wd) → Q .normal ⟨#[c0, c1, c2, c3, c4, c5, c6, c7, u8, .pointer (some ⟨gq, 0, none⟩), c10, c11, c12, c13, c14, .pointer (some ⟨gt, 0, none⟩), .int .i64 (ns : Int), .map (some gm), u18, u19, u20, c21, c22, c23, c24, c25, c26, c27, c28, c29, c30, c31, c32, c33, c34, c35, c36, c37, c38, c39, c40, c41, c42, c43, c44, c45, c46, c47, c48, c49, c50, c51, c52, c53, c54, c55, c56, c57, c58, c59, c60, c61, c62, c63, c64, c65, c66, c67, c68, c69, c70, c71, c72, c73, c74, c75, c76, c77, c78, c79, c80, c81, c82, c83, c84, c85, c86, c87, c88, c89, c90, c91, c92, c93, c94, c95, c96, c97, c98, c99, c100, c101, c102, c103, c104, c105, c106, c107, c108, c109, c110, c111, c112, c113, c114, c115, c116, c117, c118, c119, c120, c121, c122, c123, c124, c125, c126, c127, c128, c129, c130, c131, c132, c133, c134, c135, c136, c137, c138, c139, c140, c141, .slice (some ⟨ln, 0, none⟩) nl nc, .int .i64 (nl : Int), u144, u145, u146, u147, u148, u149, u150, u151, u152, u153, u154, u155, u156, u157, u158, u159, u160, u161, u162, u163, u164, u165, u166, u167, u168, u169, u170, u171, u172, u173, u174, u175, u176, u177, u178, u179, u180, u181, u182, u183, u184, u185, u186, u187, u188, u189, u190, u191, u192, u193, u194, u195, u196, u197, u198, u199, u200, u201, u202, u203, u204, u205, u206, u207, u208, u209, u210, u211, u212, u213, u214, u215, u216, u217, u218, u219, u220, u221, u222, u223, u224, u225, u226, u227, u228, u229, u230, c231, c232], []⟩ wd) :
    Code.wp Try.prog inner Q ⟨#[c0, c1, c2, c3, c4, c5, c6, c7, c8, .pointer (some ⟨gq, 0, none⟩), c10, c11, c12, c13, c14, .pointer (some ⟨gt, 0, none⟩), .int .i64 (ns : Int), .map (some gm), c18, c19, c20, c21, c22, c23, c24, c25, c26, c27, c28, c29, c30, c31, c32, c33, c34, c35, c36, c37, c38, c39, c40, c41, c42, c43, c44, c45, c46, c47, c48, c49, c50, c51, c52, c53, c54, c55, c56, c57, c58, c59, c60, c61, c62, c63, c64, c65, c66, c67, c68, c69, c70, c71, c72, c73, c74, c75, c76, c77, c78, c79, c80, c81, c82, c83, c84, c85, c86, c87, c88, c89, c90, c91, c92, c93, c94, c95, c96, c97, c98, c99, c100, c101, c102, c103, c104, c105, c106, c107, c108, c109, c110, c111, c112, c113, c114, c115, c116, c117, c118, c119, c120, c121, c122, c123, c124, c125, c126, c127, c128, c129, c130, c131, c132, c133, c134, c135, c136, c137, c138, c139, c140, c141, .slice (some ⟨ln, 0, none⟩) nl nc, .int .i64 (nl : Int), .int .i64 0, c145, c146, c147, c148, c149, c150, c151, c152, c153, c154, c155, c156, c157, c158, c159, c160, c161, c162, c163, c164, c165, c166, c167, c168, c169, c170, c171, c172, c173, c174, c175, c176, c177, c178, c179, c180, c181, c182, c183, c184, c185, c186, c187, c188, c189, c190, c191, c192, c193, c194, c195, c196, c197, c198, c199, c200, c201, c202, c203, c204, c205, c206, c207, c208, c209, c210, c211, c212, c213, c214, c215, c216, c217, c218, c219, c220, c221, c222, c223, c224, c225, c226, c227, c228, c229, c230, c231, c232], []⟩ w := by
  conv => arg 2; whnf
  have hnl8 : nl ≤ 8 := by have := HSO.out.few; have := HNS.out; have := HNL1.out; simp only at *; omega
  go_wp2_with fail
  go_loopw [144] (fun s144 wd => ∃ i : Nat, i ≤ ns ∧ s144 = .int .i64 (i : Int) ∧ Hid (Blk wd gq 31 [.slice sa1 sl sc1, .slice ea1 el ec1]) ∧ Hid (EdgeRow wd ea1 es) ∧ Hid (Blk wd gb 89 [.slice nb n1 ncb, .slice gb0 n2 gcb, .slice (some ⟨bb, 0, none⟩) n2 acb]) ∧ Hid (wd.ownsRow bs 89 3 (.slice (some ⟨ag, 0, none⟩) N c) N (rtflat acc)) ∧ Hid (∀ r ∈ acc, RtOk wd bs amt r) ∧ Hid (wd.cell? ⟨bb, 0, none⟩ = some (.int .u64 bf)) ∧ Hid (Below w0.heap.size w0 wd) ∧ Hid (wd.ownsRow bs 3 1 (.slice (some ⟨ln, 0, none⟩) nl nc) nl (ins l)) ∧ Hid (wd.ownsRow bs 3 1 (.slice (some ⟨lg, 0, none⟩) ns gc) ns (ins (stE s))) ∧ Hid (wd.ownsRow bs 40 1 (.slice (some ⟨la, 0, none⟩) ns ac) ns (Mon.nums (amtsE amt s).2)) ∧ Hid (Blk wd gt 89 [.slice (some ⟨ln, 0, none⟩) nl nc, .slice (some ⟨lg, 0, none⟩) ns gc, .slice (some ⟨la, 0, none⟩) ns ac]) ∧ Hid (SMap wd gm (l.take i))) (fun i _ => nl - (intOf i).toNat)
  case atStart => exact ⟨0, Nat.zero_le _, rfl, Qw, Ew, Kw, Rw, Ow, Cw, Bw, Nw, Gw, Aw, Tw, Mw⟩
  case round =>
    clear Qw Ew Kw Rw Ow Cw Bw Nw Gw Aw Tw Mw
    obtain ⟨i, hi, rfl, Qwi, Ewi, Kwi, Rwi, Owi, Cwi, Bwi, Nwi, Gwi, Awi, Twi, Mwi⟩ := hrel
    obtain ⟨wi, hwi⟩ : ∃ wi : World, wr = wi := ⟨_, rfl⟩
    rw [hwi] at Qwi Ewi Kwi Rwi Owi Cwi Bwi Nwi Gwi Awi Twi Mwi ⊢
    clear hwi
    have hiI : (i : Int) < (nl : Int) := by omega
    have hiN : i < nl := by omega
    obtain ⟨nd, hnd⟩ : ∃ x, l.getD i 0 = x := ⟨_, rfl⟩
    have n0 : wi.cell? ⟨ln, i, none⟩ = some (.int .i64 nd) := (Nwi.out.cellAt i (by omega)).trans (by rw [ins_at _ _ (by rw [HNL.out]; omega), hnd])
    have hI64 : I64 nd := by rw [← hnd]; exact node_i64 HOK.out HSO.out.leads HSRC.out (by rw [HNL.out]; omega)
    have hmiss : nd ∉ l.take i := by rw [← hnd]; exact nodup_at HSO.out.leads.2.2.1 (by rw [HNL.out]; omega)
    have HTK : Hid (l.take i ++ [nd] = l.take (i + 1)) := Lib.hid (by rw [← hnd]; exact take_next (by rw [HNL.out]; omega))
    have lk := Mwi.out.miss nd hI64 hmiss
    obtain ⟨wp, up, hMp, hgp⟩ := Mwi.out.put nd hI64 hmiss
    rw [HTK.out] at hMp
    have HND := Lib.hid hnd
    clear hnd hI64 hmiss HTK
    have Qwp : Hid (Blk wp gq 31 [.slice sa1 sl sc1, .slice ea1 el ec1]) := Lib.hid (blk_smap Qwi.out Mwi.out hgp)
    have Ewp : Hid (EdgeRow wp ea1 es) := Lib.hid (edge_smap Ewi.out Mwi.out hgp)
    have Kwp : Hid (Blk wp gb 89 [.slice nb n1 ncb, .slice gb0 n2 gcb, .slice (some ⟨bb, 0, none⟩) n2 acb]) := Lib.hid (blk_smap Kwi.out Mwi.out hgp)
    have Rwp : Hid (wp.ownsRow bs 89 3 (.slice (some ⟨ag, 0, none⟩) N c) N (rtflat acc)) := Lib.hid (own_smap Rwi.out Mwi.out hgp)
    have Owp : Hid (∀ r ∈ acc, RtOk wp bs amt r) := Lib.hid (fun r hr => rt_smap (Owi.out r hr) Mwi.out hgp)
    have Cwp : Hid (wp.cell? ⟨bb, 0, none⟩ = some (.int .u64 bf)) := Lib.hid (cell_smap Cwi.out Mwi.out hgp)
    have Bwp : Hid (Below w0.heap.size w0 wp) := Lib.hid (Bwi.out.trans (only_up hgp hgm Bwi.out.size))
    have Nwp : Hid (wp.ownsRow bs 3 1 (.slice (some ⟨ln, 0, none⟩) nl nc) nl (ins l)) := Lib.hid (own_smap Nwi.out Mwi.out hgp)
    have Gwp : Hid (wp.ownsRow bs 3 1 (.slice (some ⟨lg, 0, none⟩) ns gc) ns (ins (stE s))) := Lib.hid (own_smap Gwi.out Mwi.out hgp)
    have Awp : Hid (wp.ownsRow bs 40 1 (.slice (some ⟨la, 0, none⟩) ns ac) ns (Mon.nums (amtsE amt s).2)) := Lib.hid (own_smap Awi.out Mwi.out hgp)
    have Twp : Hid (Blk wp gt 89 [.slice (some ⟨ln, 0, none⟩) nl nc, .slice (some ⟨lg, 0, none⟩) ns gc, .slice (some ⟨la, 0, none⟩) ns ac]) := Lib.hid (blk_smap Twi.out Mwi.out hgp)
    have Mwp := Lib.hid hMp
    clear Qwi Ewi Kwi Rwi Owi Cwi Bwi Nwi Gwi Awi Twi Mwi hMp hgp
    by_cases hin : i = ns
    · subst hin
      go_wp2_with fail
      exact hexit wp Qwp Ewp Kwp Rwp Owp Cwp Bwp
    · have hil : i < ns := by omega
      have e0 : ((i : Int) == (ns : Int)) = false := by simpa using (show ¬ (i : Int) = (ns : Int) by omega)
      have e1 : decide ((i : Int) = (ns : Int)) = false := decide_eq_false (by omega)
      clear hin
      go_upto_region 24 with fail
      clear n0 lk up e0 e1
      obtain ⟨k, ed, hk, hed, hke, hsd⟩ := HSO.out.leads.edge (i := i) (by rw [HNS.out]; exact hil)
      have HSD := Lib.hid hsd
      clear hsd
      obtain ⟨be, oe, hea, hce⟩ := Ewp.out.at_ hk
      rw [hed] at hce
      obtain ⟨p, q, c9, d9, f9, g9, h9, u9⟩ := ed
      subst hea
      have y0wp : Hid (wp.cell? ⟨be, oe + k * 8, none⟩ = some (.int .i64 p)) := Lib.hid (hce.2 0 _ rfl)
      have y1wp : Hid (wp.cell? ⟨be, oe + k * 8 + 1, none⟩ = some (.int .i64 q)) := Lib.hid (hce.2 1 _ rfl)
      have y2wp : Hid (wp.cell? ⟨be, oe + k * 8 + 2, none⟩ = some (.int .u64 c9)) := Lib.hid (hce.2 2 _ rfl)
      have y3wp : Hid (wp.cell? ⟨be, oe + k * 8 + 3, none⟩ = some (.int .u64 d9)) := Lib.hid (hce.2 3 _ rfl)
      have y4wp : Hid (wp.cell? ⟨be, oe + k * 8 + 4, none⟩ = some (.int .u64 f9)) := Lib.hid (hce.2 4 _ rfl)
      have y5wp : Hid (wp.cell? ⟨be, oe + k * 8 + 5, none⟩ = some (.int .u64 g9)) := Lib.hid (hce.2 5 _ rfl)
      have y6wp : Hid (wp.cell? ⟨be, oe + k * 8 + 6, none⟩ = some (.int .u64 h9)) := Lib.hid (hce.2 6 _ rfl)
      have y7wp : Hid (wp.cell? ⟨be, oe + k * 8 + 7, none⟩ = some (.int .u64 u9)) := Lib.hid (hce.2 7 _ rfl)
      have z0wp : Hid (wp.cell? ⟨lg, i, none⟩ = some (.int .i64 (k : Int))) := Lib.hid ((Gwp.out.cellAt i (by omega)).trans (by rw [ins_at _ _ (by unfold stE; rw [List.length_map, HNS.out]; omega), stE_at (by rw [HNS.out]; exact hil), hke]))
      obtain ⟨nx, hnx⟩ : ∃ x, l.getD (i + 1) 0 = x := ⟨_, rfl⟩
      have z1wp : Hid (wp.cell? ⟨ln, i + 1, none⟩ = some (.int .i64 nx)) := Lib.hid ((Nwp.out.cellAt (i + 1) (by omega)).trans (by rw [ins_at _ _ (by rw [HNL.out]; omega), hnx]))
      obtain ⟨ai, hai⟩ : ∃ x, (amtsE amt s).2.getD i 0 = x := ⟨_, rfl⟩
      have z2wp : Hid (wp.cell? ⟨la, i, none⟩ = some (.int .u64 ai)) := Lib.hid ((Awp.out.cellAt i (by omega)).trans (nums_at _ _ _ (by rw [HGR.out.2.2, HNS.out]; omega) hai))
      obtain ⟨ap, hap⟩ : ∃ x, (amtsE amt s).2.getD (i - 1) 0 = x := ⟨_, rfl⟩
      have z3wp : Hid (wp.cell? ⟨la, i - 1, none⟩ = some (.int .u64 ap)) := Lib.hid ((Awp.out.cellAt (i - 1) (by omega)).trans (nums_at _ _ _ (by rw [HGR.out.2.2, HNS.out]; omega) hap))
      have Hkl : Hid ((k : Int) < (el : Int)) := Lib.hid (by rw [← HEL.out]; omega)
      have Hil : Hid ((i : Int) < (ns : Int)) := Lib.hid (by omega)
      have Hix : Hid ((i : Int) + 1 < (nl : Int)) := Lib.hid (by have := HNL1.out; omega)
      have Hiy : Hid ((0 : Int) ≤ (i : Int) + 1) := Lib.hid (by omega)
      have Hiz : Hid (((i : Int) + 1).toNat = i + 1) := Lib.hid (by omega)
      have Hiw : Hid (IntKind.i64.wrap ((i : Int) + 1) = (i : Int) + 1) := Lib.hid (IntWalk.i64_in _ (by omega))
      have Hfal : Hid (0 < i → ai ≤ ap) := Lib.hid (fun h => by rw [← hai, ← hap]; exact HFA.out.1 i h (by rw [HNS.out]; exact hil))
      have Hcan : Hid (ai ≤ (s.getD i stp00).c) := Lib.hid (by rw [← hai]; exact HGR.out.1.2 i (by rw [HNS.out]; exact hil))
      rw [HND.out, hnx] at HSD
      clear hce hke hk hed hai hap hnx
      obtain ⟨sn, s1, cn, hsn, hs1, hsd, hy1, hy2, hcn⟩ : ∃ (sn s1 : Nat) (cn : Int), sn ≤ 1 ∧ s1 + sn = 1 ∧ sideE ⟨p, q, c9, d9, f9, g9, h9, u9⟩ nd = (sn : Int) ∧ wp.cell? ⟨be, oe + k * 8 + s1, none⟩ = some (.int .i64 nx) ∧ wp.cell? ⟨be, oe + k * 8 + 2 + sn, none⟩ = some (.int .u64 cn) ∧ ai ≤ cn := by
        rcases HSD.out with ⟨hs, hq, hc9⟩ | ⟨hs, hq, hc9⟩
        · simp only at hq hc9
          exact ⟨0, 1, c9, by omega, rfl, hs, by rw [← hq]; exact y1wp.out, y2wp.out, by rw [hc9]; exact Hcan.out⟩
        · simp only at hq hc9
          exact ⟨1, 0, d9, by omega, rfl, hs, by rw [← hq]; exact y0wp.out, y3wp.out, by rw [hc9]; exact Hcan.out⟩
      have y8wp := Lib.hid hy1
      have y9wp := Lib.hid hy2
      have Hs := Lib.hid hsd
      have Hlt : Hid (decide (cn < ai) = false) := Lib.hid (decide_eq_false (by omega))
      have Hsw : Hid (IntKind.i64.wrap (1 - (sn : Int)) = (s1 : Int)) := Lib.hid (by rw [show (1 : Int) - (sn : Int) = (s1 : Int) by omega]; exact IntWalk.i64_in _ (by omega))
      have Hsa : Hid ((s1 : Int) < 2) := Lib.hid (by omega)
      have Hsb : Hid (s1 < 2) := Lib.hid (by omega)
      have Hsc : Hid ((sn : Int) < 2) := Lib.hid (by omega)
      have Hsd : Hid (sn < 2) := Lib.hid (by omega)
      have Hse : Hid (decide ((sn : Int) < 0) = false) := Lib.hid (decide_eq_false (by omega))
      clear hsn hs1 hsd hy1 hy2 hcn HSD Hcan
      have hBz : Below wp.heap.size wp wp.drew := below_drewN (Below.refl _ _) 1
      have QI0 : Hid (Blk wp.drew gq 31 [.slice sa1 sl sc1, .slice (some ⟨be, oe, none⟩) el ec1]) := Lib.hid (Qwp.out.below hBz Qwp.out.lt)
      have EI0 : Hid (EdgeRow wp.drew (some ⟨be, oe, none⟩) es) := Lib.hid (Ewp.out.below hBz)
      have KI0 : Hid (Blk wp.drew gb 89 [.slice nb n1 ncb, .slice gb0 n2 gcb, .slice (some ⟨bb, 0, none⟩) n2 acb]) := Lib.hid (Kwp.out.below hBz Kwp.out.lt)
      have RI0 : Hid (wp.drew.ownsRow bs 89 3 (.slice (some ⟨ag, 0, none⟩) N c) N (rtflat acc)) := Lib.hid (Mon.own_below Rwp.out hBz)
      have OI0 : Hid (∀ r ∈ acc, RtOk wp.drew bs amt r) := Lib.hid (fun r hr => rt_below (Owp.out r hr) hBz)
      have CI0 : Hid (wp.drew.cell? ⟨bb, 0, none⟩ = some (.int .u64 bf)) := Lib.hid ((hBz.cell (p := ⟨bb, 0, none⟩) (World.block_lt_of_cell? _ _ Cwp.out)).trans Cwp.out)
      have BI0 : Hid (Below w0.heap.size w0 wp.drew) := Lib.hid (Bwp.out.trans (hBz.mono Bwp.out.size))
      have NI0 : Hid (wp.drew.ownsRow bs 3 1 (.slice (some ⟨ln, 0, none⟩) nl nc) nl (ins l)) := Lib.hid (Mon.own_below Nwp.out hBz)
      have GI0 : Hid (wp.drew.ownsRow bs 3 1 (.slice (some ⟨lg, 0, none⟩) ns gc) ns (ins (stE s))) := Lib.hid (Mon.own_below Gwp.out hBz)
      have AI0 : Hid (wp.drew.ownsRow bs 40 1 (.slice (some ⟨la, 0, none⟩) ns ac) ns (Mon.nums (amtsE amt s).2)) := Lib.hid (Mon.own_below Awp.out hBz)
      have TI0 : Hid (Blk wp.drew gt 89 [.slice (some ⟨ln, 0, none⟩) nl nc, .slice (some ⟨lg, 0, none⟩) ns gc, .slice (some ⟨la, 0, none⟩) ns ac]) := Lib.hid (Twp.out.below hBz Twp.out.lt)
      have MI0 : Hid (SMap wp.drew gm (l.take (i + 1))) := Lib.hid (Mwp.out.below hBz)
      have y0I0 : Hid (wp.drew.cell? ⟨be, oe + k * 8, none⟩ = some (.int .i64 p)) := Lib.hid ((hBz.cell (p := ⟨be, oe + k * 8, none⟩) (World.block_lt_of_cell? _ _ y0wp.out)).trans y0wp.out)
      have y1I0 : Hid (wp.drew.cell? ⟨be, oe + k * 8 + 1, none⟩ = some (.int .i64 q)) := Lib.hid ((hBz.cell (p := ⟨be, oe + k * 8 + 1, none⟩) (World.block_lt_of_cell? _ _ y1wp.out)).trans y1wp.out)
      have y2I0 : Hid (wp.drew.cell? ⟨be, oe + k * 8 + 2, none⟩ = some (.int .u64 c9)) := Lib.hid ((hBz.cell (p := ⟨be, oe + k * 8 + 2, none⟩) (World.block_lt_of_cell? _ _ y2wp.out)).trans y2wp.out)
      have y3I0 : Hid (wp.drew.cell? ⟨be, oe + k * 8 + 3, none⟩ = some (.int .u64 d9)) := Lib.hid ((hBz.cell (p := ⟨be, oe + k * 8 + 3, none⟩) (World.block_lt_of_cell? _ _ y3wp.out)).trans y3wp.out)
      have y4I0 : Hid (wp.drew.cell? ⟨be, oe + k * 8 + 4, none⟩ = some (.int .u64 f9)) := Lib.hid ((hBz.cell (p := ⟨be, oe + k * 8 + 4, none⟩) (World.block_lt_of_cell? _ _ y4wp.out)).trans y4wp.out)
      have y5I0 : Hid (wp.drew.cell? ⟨be, oe + k * 8 + 5, none⟩ = some (.int .u64 g9)) := Lib.hid ((hBz.cell (p := ⟨be, oe + k * 8 + 5, none⟩) (World.block_lt_of_cell? _ _ y5wp.out)).trans y5wp.out)
      have y6I0 : Hid (wp.drew.cell? ⟨be, oe + k * 8 + 6, none⟩ = some (.int .u64 h9)) := Lib.hid ((hBz.cell (p := ⟨be, oe + k * 8 + 6, none⟩) (World.block_lt_of_cell? _ _ y6wp.out)).trans y6wp.out)
      have y7I0 : Hid (wp.drew.cell? ⟨be, oe + k * 8 + 7, none⟩ = some (.int .u64 u9)) := Lib.hid ((hBz.cell (p := ⟨be, oe + k * 8 + 7, none⟩) (World.block_lt_of_cell? _ _ y7wp.out)).trans y7wp.out)
      have z0I0 : Hid (wp.drew.cell? ⟨lg, i, none⟩ = some (.int .i64 (k : Int))) := Lib.hid ((hBz.cell (p := ⟨lg, i, none⟩) (World.block_lt_of_cell? _ _ z0wp.out)).trans z0wp.out)
      have z1I0 : Hid (wp.drew.cell? ⟨ln, i + 1, none⟩ = some (.int .i64 nx)) := Lib.hid ((hBz.cell (p := ⟨ln, i + 1, none⟩) (World.block_lt_of_cell? _ _ z1wp.out)).trans z1wp.out)
      have z2I0 : Hid (wp.drew.cell? ⟨la, i, none⟩ = some (.int .u64 ai)) := Lib.hid ((hBz.cell (p := ⟨la, i, none⟩) (World.block_lt_of_cell? _ _ z2wp.out)).trans z2wp.out)
      have z3I0 : Hid (wp.drew.cell? ⟨la, i - 1, none⟩ = some (.int .u64 ap)) := Lib.hid ((hBz.cell (p := ⟨la, i - 1, none⟩) (World.block_lt_of_cell? _ _ z3wp.out)).trans z3wp.out)
      have y8I0 : Hid (wp.drew.cell? ⟨be, oe + k * 8 + s1, none⟩ = some (.int .i64 nx)) := Lib.hid ((hBz.cell (p := ⟨be, oe + k * 8 + s1, none⟩) (World.block_lt_of_cell? _ _ y8wp.out)).trans y8wp.out)
      have y9I0 : Hid (wp.drew.cell? ⟨be, oe + k * 8 + 2 + sn, none⟩ = some (.int .u64 cn)) := Lib.hid ((hBz.cell (p := ⟨be, oe + k * 8 + 2 + sn, none⟩) (World.block_lt_of_cell? _ _ y9wp.out)).trans y9wp.out)
      clear hBz
      refine wp_region_held_drew (S := fun w' => Blk w' gq 31 [.slice sa1 sl sc1, .slice (some ⟨be, oe, none⟩) el ec1] ∧ Blk w' gt 89 [.slice (some ⟨ln, 0, none⟩) nl nc, .slice (some ⟨lg, 0, none⟩) ns gc, .slice (some ⟨la, 0, none⟩) ns ac] ∧ w'.cell? ⟨be, oe + k * 8, none⟩ = some (.int .i64 p) ∧ w'.cell? ⟨be, oe + k * 8 + 1, none⟩ = some (.int .i64 q) ∧ w'.cell? ⟨be, oe + k * 8 + 2, none⟩ = some (.int .u64 c9) ∧ w'.cell? ⟨be, oe + k * 8 + 3, none⟩ = some (.int .u64 d9) ∧ w'.cell? ⟨be, oe + k * 8 + 4, none⟩ = some (.int .u64 f9) ∧ w'.cell? ⟨be, oe + k * 8 + 5, none⟩ = some (.int .u64 g9) ∧ w'.cell? ⟨be, oe + k * 8 + 6, none⟩ = some (.int .u64 h9) ∧ w'.cell? ⟨be, oe + k * 8 + 7, none⟩ = some (.int .u64 u9) ∧ w'.cell? ⟨lg, i, none⟩ = some (.int .i64 (k : Int))) (by kernel_rfl) (⟨QI0.out, TI0.out, y0I0.out, y1I0.out, y2I0.out, y3I0.out, y4I0.out, y5I0.out, y6I0.out, y7I0.out, z0I0.out⟩) (fun hHeld => ?_)
      generalize wp.drew = I0 at hHeld QI0 EI0 KI0 RI0 OI0 CI0 BI0 NI0 GI0 AI0 TI0 MI0 y0I0 y1I0 y2I0 y3I0 y4I0 y5I0 y6I0 y7I0 z0I0 z1I0 z2I0 z3I0 y8I0 y9I0 ⊢
      refine wpAnyH_take (i := 0) (v := .pointer (some ⟨gq, 1, none⟩)) rfl (by kernel_rfl) (by kernel_rfl) (by kernel_rfl) (fun _ _ _ h => hpan _ _ _ _ _ h) (Or.inl ⟨by rfl, by intro w' h; go_simp⟩) hHeld ?_
      show wpAnyH _ _ _ _ _ _ _ (Act.put _ (some 157) _) _
      simp only [Act.put, List.setIfInBounds_toArray, List.set_cons_zero, List.set_cons_succ]
      refine wpAnyH_take (i := 1) (v := .slice (some ⟨be, oe, none⟩) el ec1) rfl (by kernel_rfl) (by kernel_rfl) (by kernel_rfl) (fun _ _ _ h => hpan _ _ _ _ _ h) (Or.inl ⟨by rfl, by intro w' h; have k0 := Blk.cell h.1 1; simp only [List.getElem?_cons_zero, List.getElem?_cons_succ] at k0; go_simp⟩) hHeld ?_
      show wpAnyH _ _ _ _ _ _ _ (Act.put _ (some 158) _) _
      simp only [Act.put, List.setIfInBounds_toArray, List.set_cons_zero, List.set_cons_succ]
      refine wpAnyH_take (i := 2) (v := .pointer (some ⟨gt, 1, none⟩)) rfl (by kernel_rfl) (by kernel_rfl) (by kernel_rfl) (fun _ _ _ h => hpan _ _ _ _ _ h) (Or.inl ⟨by rfl, by intro w' h; go_simp⟩) hHeld ?_
      show wpAnyH _ _ _ _ _ _ _ (Act.put _ (some 159) _) _
      simp only [Act.put, List.setIfInBounds_toArray, List.set_cons_zero, List.set_cons_succ]
      refine wpAnyH_take (i := 3) (v := .slice (some ⟨lg, 0, none⟩) ns gc) rfl (by kernel_rfl) (by kernel_rfl) (by kernel_rfl) (fun _ _ _ h => hpan _ _ _ _ _ h) (Or.inl ⟨by rfl, by intro w' h; have k0 := Blk.cell h.2.1 1; simp only [List.getElem?_cons_zero, List.getElem?_cons_succ] at k0; go_simp⟩) hHeld ?_
      show wpAnyH _ _ _ _ _ _ _ (Act.put _ (some 160) _) _
      simp only [Act.put, List.setIfInBounds_toArray, List.set_cons_zero, List.set_cons_succ]
      refine wpAnyH_take (i := 4) (v := .int .i64 (i : Int)) rfl (by kernel_rfl) (by kernel_rfl) (by kernel_rfl) (fun _ _ _ h => hpan _ _ _ _ _ h) (Or.inl ⟨by rfl, fun w _ => by rfl⟩) hHeld ?_
      show wpAnyH _ _ _ _ _ _ _ (Act.put _ (some 161) _) _
      simp only [Act.put, List.setIfInBounds_toArray, List.set_cons_zero, List.set_cons_succ]
      refine wpAnyH_take (i := 5) (v := .pointer (some ⟨lg, i, none⟩)) rfl (by kernel_rfl) (by kernel_rfl) (by kernel_rfl) (fun _ _ _ h => hpan _ _ _ _ _ h) (Or.inl ⟨by rfl, by intro w' h; have il := Hil.out; go_simp⟩) hHeld ?_
      show wpAnyH _ _ _ _ _ _ _ (Act.put _ (some 162) _) _
      simp only [Act.put, List.setIfInBounds_toArray, List.set_cons_zero, List.set_cons_succ]
      refine wpAnyH_take (i := 6) (v := .int .i64 (k : Int)) rfl (by kernel_rfl) (by kernel_rfl) (by kernel_rfl) (fun _ _ _ h => hpan _ _ _ _ _ h) (Or.inl ⟨by rfl, by intro w' h; have q9 := h.2.2.2.2.2.2.2.2.2.2; go_simp⟩) hHeld ?_
      show wpAnyH _ _ _ _ _ _ _ (Act.put _ (some 163) _) _
      simp only [Act.put, List.setIfInBounds_toArray, List.set_cons_zero, List.set_cons_succ]
      refine wpAnyH_take (i := 7) (v := .pointer (some ⟨be, oe + k * 8, none⟩)) rfl (by kernel_rfl) (by kernel_rfl) (by kernel_rfl) (fun _ _ _ h => hpan _ _ _ _ _ h) (Or.inl ⟨by rfl, by intro w' h; have kl := Hkl.out; go_simp⟩) hHeld ?_
      show wpAnyH _ _ _ _ _ _ _ (Act.put _ (some 164) _) _
      simp only [Act.put, List.setIfInBounds_toArray, List.set_cons_zero, List.set_cons_succ]
      refine wpAnyH_take (i := 8) (v := .agg #[.int .i64 p, .int .i64 q, .int .u64 c9, .int .u64 d9, .int .u64 f9, .int .u64 g9, .int .u64 h9, .int .u64 u9]) rfl (by kernel_rfl) (by kernel_rfl) (by kernel_rfl) (fun _ _ _ h => hpan _ _ _ _ _ h) (Or.inl ⟨by rfl, by intro w' h; have q0 := h.2.2.1; have q1 := h.2.2.2.1; have q2 := h.2.2.2.2.1; have q3 := h.2.2.2.2.2.1; have q4 := h.2.2.2.2.2.2.1; have q5 := h.2.2.2.2.2.2.2.1; have q6 := h.2.2.2.2.2.2.2.2.1; have q7 := h.2.2.2.2.2.2.2.2.2.1; go_simp⟩) hHeld ?_
      show wpAnyH _ _ _ _ _ _ _ (Act.put _ (some 165) _) _
      simp only [Act.put, List.setIfInBounds_toArray, List.set_cons_zero, List.set_cons_succ]
      refine wpAnyH_take (i := 9) (v := .int .i64 nd) rfl (by kernel_rfl) (by kernel_rfl) (by kernel_rfl) (fun _ _ _ h => hpan _ _ _ _ _ h) (Or.inl ⟨by rfl, fun w _ => by rfl⟩) hHeld ?_
      show wpAnyH _ _ _ _ _ _ _ (Act.put _ (some 166) _) _
      simp only [Act.put, List.setIfInBounds_toArray, List.set_cons_zero, List.set_cons_succ]
      refine wpAnyH_ready (rs := [10]) (by kernel_rfl) (by simp) ?_
      refine AllReadyH.cons rfl (fun K hK => ?_) AllReadyH.nil
      refine step_call rfl 20 #[.tmp 165, .tmp 166] #[52, 3] rfl #[.agg #[.int .i64 p, .int .i64 q, .int .u64 c9, .int .u64 d9, .int .u64 f9, .int .u64 g9, .int .u64 h9, .int .u64 u9], .int .i64 nd] (by simp [Act.eval]) (by go_simp) (eside_any ⟨p, q, c9, d9, f9, g9, h9, u9⟩ nd I0) ?_
      rintro e X1 ⟨rfl, hB⟩
      rw [Hs.out]
      have QX1 : Hid (Blk X1 gq 31 [.slice sa1 sl sc1, .slice (some ⟨be, oe, none⟩) el ec1]) := Lib.hid (QI0.out.below hB QI0.out.lt)
      have EX1 : Hid (EdgeRow X1 (some ⟨be, oe, none⟩) es) := Lib.hid (EI0.out.below hB)
      have KX1 : Hid (Blk X1 gb 89 [.slice nb n1 ncb, .slice gb0 n2 gcb, .slice (some ⟨bb, 0, none⟩) n2 acb]) := Lib.hid (KI0.out.below hB KI0.out.lt)
      have RX1 : Hid (X1.ownsRow bs 89 3 (.slice (some ⟨ag, 0, none⟩) N c) N (rtflat acc)) := Lib.hid (Mon.own_below RI0.out hB)
      have OX1 : Hid (∀ r ∈ acc, RtOk X1 bs amt r) := Lib.hid (fun r hr => rt_below (OI0.out r hr) hB)
      have CX1 : Hid (X1.cell? ⟨bb, 0, none⟩ = some (.int .u64 bf)) := Lib.hid ((hB.cell (p := ⟨bb, 0, none⟩) (World.block_lt_of_cell? _ _ CI0.out)).trans CI0.out)
      have BX1 : Hid (Below w0.heap.size w0 X1) := Lib.hid (BI0.out.trans (hB.mono BI0.out.size))
      have NX1 : Hid (X1.ownsRow bs 3 1 (.slice (some ⟨ln, 0, none⟩) nl nc) nl (ins l)) := Lib.hid (Mon.own_below NI0.out hB)
      have GX1 : Hid (X1.ownsRow bs 3 1 (.slice (some ⟨lg, 0, none⟩) ns gc) ns (ins (stE s))) := Lib.hid (Mon.own_below GI0.out hB)
      have AX1 : Hid (X1.ownsRow bs 40 1 (.slice (some ⟨la, 0, none⟩) ns ac) ns (Mon.nums (amtsE amt s).2)) := Lib.hid (Mon.own_below AI0.out hB)
      have TX1 : Hid (Blk X1 gt 89 [.slice (some ⟨ln, 0, none⟩) nl nc, .slice (some ⟨lg, 0, none⟩) ns gc, .slice (some ⟨la, 0, none⟩) ns ac]) := Lib.hid (TI0.out.below hB TI0.out.lt)
      have MX1 : Hid (SMap X1 gm (l.take (i + 1))) := Lib.hid (MI0.out.below hB)
      have y0X1 : Hid (X1.cell? ⟨be, oe + k * 8, none⟩ = some (.int .i64 p)) := Lib.hid ((hB.cell (p := ⟨be, oe + k * 8, none⟩) (World.block_lt_of_cell? _ _ y0I0.out)).trans y0I0.out)
      have y1X1 : Hid (X1.cell? ⟨be, oe + k * 8 + 1, none⟩ = some (.int .i64 q)) := Lib.hid ((hB.cell (p := ⟨be, oe + k * 8 + 1, none⟩) (World.block_lt_of_cell? _ _ y1I0.out)).trans y1I0.out)
      have y2X1 : Hid (X1.cell? ⟨be, oe + k * 8 + 2, none⟩ = some (.int .u64 c9)) := Lib.hid ((hB.cell (p := ⟨be, oe + k * 8 + 2, none⟩) (World.block_lt_of_cell? _ _ y2I0.out)).trans y2I0.out)
      have y3X1 : Hid (X1.cell? ⟨be, oe + k * 8 + 3, none⟩ = some (.int .u64 d9)) := Lib.hid ((hB.cell (p := ⟨be, oe + k * 8 + 3, none⟩) (World.block_lt_of_cell? _ _ y3I0.out)).trans y3I0.out)
      have y4X1 : Hid (X1.cell? ⟨be, oe + k * 8 + 4, none⟩ = some (.int .u64 f9)) := Lib.hid ((hB.cell (p := ⟨be, oe + k * 8 + 4, none⟩) (World.block_lt_of_cell? _ _ y4I0.out)).trans y4I0.out)
      have y5X1 : Hid (X1.cell? ⟨be, oe + k * 8 + 5, none⟩ = some (.int .u64 g9)) := Lib.hid ((hB.cell (p := ⟨be, oe + k * 8 + 5, none⟩) (World.block_lt_of_cell? _ _ y5I0.out)).trans y5I0.out)
      have y6X1 : Hid (X1.cell? ⟨be, oe + k * 8 + 6, none⟩ = some (.int .u64 h9)) := Lib.hid ((hB.cell (p := ⟨be, oe + k * 8 + 6, none⟩) (World.block_lt_of_cell? _ _ y6I0.out)).trans y6I0.out)
      have y7X1 : Hid (X1.cell? ⟨be, oe + k * 8 + 7, none⟩ = some (.int .u64 u9)) := Lib.hid ((hB.cell (p := ⟨be, oe + k * 8 + 7, none⟩) (World.block_lt_of_cell? _ _ y7I0.out)).trans y7I0.out)
      have z0X1 : Hid (X1.cell? ⟨lg, i, none⟩ = some (.int .i64 (k : Int))) := Lib.hid ((hB.cell (p := ⟨lg, i, none⟩) (World.block_lt_of_cell? _ _ z0I0.out)).trans z0I0.out)
      have z1X1 : Hid (X1.cell? ⟨ln, i + 1, none⟩ = some (.int .i64 nx)) := Lib.hid ((hB.cell (p := ⟨ln, i + 1, none⟩) (World.block_lt_of_cell? _ _ z1I0.out)).trans z1I0.out)
      have z2X1 : Hid (X1.cell? ⟨la, i, none⟩ = some (.int .u64 ai)) := Lib.hid ((hB.cell (p := ⟨la, i, none⟩) (World.block_lt_of_cell? _ _ z2I0.out)).trans z2I0.out)
      have z3X1 : Hid (X1.cell? ⟨la, i - 1, none⟩ = some (.int .u64 ap)) := Lib.hid ((hB.cell (p := ⟨la, i - 1, none⟩) (World.block_lt_of_cell? _ _ z3I0.out)).trans z3I0.out)
      have y8X1 : Hid (X1.cell? ⟨be, oe + k * 8 + s1, none⟩ = some (.int .i64 nx)) := Lib.hid ((hB.cell (p := ⟨be, oe + k * 8 + s1, none⟩) (World.block_lt_of_cell? _ _ y8I0.out)).trans y8I0.out)
      have y9X1 : Hid (X1.cell? ⟨be, oe + k * 8 + 2 + sn, none⟩ = some (.int .u64 cn)) := Lib.hid ((hB.cell (p := ⟨be, oe + k * 8 + 2 + sn, none⟩) (World.block_lt_of_cell? _ _ y9I0.out)).trans y9I0.out)
      clear QI0 EI0 KI0 RI0 OI0 CI0 BI0 NI0 GI0 AI0 TI0 MI0 y0I0 y1I0 y2I0 y3I0 y4I0 y5I0 y6I0 y7I0 z0I0 z1I0 z2I0 z3I0 y8I0 y9I0 hB
      refine ⟨_, rfl, hK.out _ _ (⟨QX1.out, TX1.out, y0X1.out, y1X1.out, y2X1.out, y3X1.out, y4X1.out, y5X1.out, y6X1.out, y7X1.out, z0X1.out⟩) (fun hHeld => ?_)⟩
      clear hK K
      show wpAnyH _ _ _ _ _ _ _ (Act.put _ (some 167) _) _
      simp only [Act.put, List.setIfInBounds_toArray, List.set_cons_zero, List.set_cons_succ]
      refine wpAnyH_take (i := 11) (v := .int .i64 (sn : Int)) rfl (by kernel_rfl) (by kernel_rfl) (by kernel_rfl) (fun _ _ _ h => hpan _ _ _ _ _ h) (Or.inl ⟨by rfl, fun w _ => by rfl⟩) hHeld ?_
      show wpAnyH _ _ _ _ _ _ _ (Act.put _ (some 20) _) _
      simp only [Act.put, List.setIfInBounds_toArray, List.set_cons_zero, List.set_cons_succ]
      refine wpAnyH_done (by kernel_rfl) ?_ _
      clear hHeld
      go_upto_region 25 with fail
      by_cases hp : i = 0
      · skip
        have Hd : Hid (i = 0) := Lib.hid hp
        clear hp
        have hBz : Below X1.heap.size X1 X1.drew := below_drewN (Below.refl _ _) 1
        have QJ0 : Hid (Blk X1.drew gq 31 [.slice sa1 sl sc1, .slice (some ⟨be, oe, none⟩) el ec1]) := Lib.hid (QX1.out.below hBz QX1.out.lt)
        have EJ0 : Hid (EdgeRow X1.drew (some ⟨be, oe, none⟩) es) := Lib.hid (EX1.out.below hBz)
        have KJ0 : Hid (Blk X1.drew gb 89 [.slice nb n1 ncb, .slice gb0 n2 gcb, .slice (some ⟨bb, 0, none⟩) n2 acb]) := Lib.hid (KX1.out.below hBz KX1.out.lt)
        have RJ0 : Hid (X1.drew.ownsRow bs 89 3 (.slice (some ⟨ag, 0, none⟩) N c) N (rtflat acc)) := Lib.hid (Mon.own_below RX1.out hBz)
        have OJ0 : Hid (∀ r ∈ acc, RtOk X1.drew bs amt r) := Lib.hid (fun r hr => rt_below (OX1.out r hr) hBz)
        have CJ0 : Hid (X1.drew.cell? ⟨bb, 0, none⟩ = some (.int .u64 bf)) := Lib.hid ((hBz.cell (p := ⟨bb, 0, none⟩) (World.block_lt_of_cell? _ _ CX1.out)).trans CX1.out)
        have BJ0 : Hid (Below w0.heap.size w0 X1.drew) := Lib.hid (BX1.out.trans (hBz.mono BX1.out.size))
        have NJ0 : Hid (X1.drew.ownsRow bs 3 1 (.slice (some ⟨ln, 0, none⟩) nl nc) nl (ins l)) := Lib.hid (Mon.own_below NX1.out hBz)
        have GJ0 : Hid (X1.drew.ownsRow bs 3 1 (.slice (some ⟨lg, 0, none⟩) ns gc) ns (ins (stE s))) := Lib.hid (Mon.own_below GX1.out hBz)
        have AJ0 : Hid (X1.drew.ownsRow bs 40 1 (.slice (some ⟨la, 0, none⟩) ns ac) ns (Mon.nums (amtsE amt s).2)) := Lib.hid (Mon.own_below AX1.out hBz)
        have TJ0 : Hid (Blk X1.drew gt 89 [.slice (some ⟨ln, 0, none⟩) nl nc, .slice (some ⟨lg, 0, none⟩) ns gc, .slice (some ⟨la, 0, none⟩) ns ac]) := Lib.hid (TX1.out.below hBz TX1.out.lt)
        have MJ0 : Hid (SMap X1.drew gm (l.take (i + 1))) := Lib.hid (MX1.out.below hBz)
        have y0J0 : Hid (X1.drew.cell? ⟨be, oe + k * 8, none⟩ = some (.int .i64 p)) := Lib.hid ((hBz.cell (p := ⟨be, oe + k * 8, none⟩) (World.block_lt_of_cell? _ _ y0X1.out)).trans y0X1.out)
        have y1J0 : Hid (X1.drew.cell? ⟨be, oe + k * 8 + 1, none⟩ = some (.int .i64 q)) := Lib.hid ((hBz.cell (p := ⟨be, oe + k * 8 + 1, none⟩) (World.block_lt_of_cell? _ _ y1X1.out)).trans y1X1.out)
        have y2J0 : Hid (X1.drew.cell? ⟨be, oe + k * 8 + 2, none⟩ = some (.int .u64 c9)) := Lib.hid ((hBz.cell (p := ⟨be, oe + k * 8 + 2, none⟩) (World.block_lt_of_cell? _ _ y2X1.out)).trans y2X1.out)
        have y3J0 : Hid (X1.drew.cell? ⟨be, oe + k * 8 + 3, none⟩ = some (.int .u64 d9)) := Lib.hid ((hBz.cell (p := ⟨be, oe + k * 8 + 3, none⟩) (World.block_lt_of_cell? _ _ y3X1.out)).trans y3X1.out)
        have y4J0 : Hid (X1.drew.cell? ⟨be, oe + k * 8 + 4, none⟩ = some (.int .u64 f9)) := Lib.hid ((hBz.cell (p := ⟨be, oe + k * 8 + 4, none⟩) (World.block_lt_of_cell? _ _ y4X1.out)).trans y4X1.out)
        have y5J0 : Hid (X1.drew.cell? ⟨be, oe + k * 8 + 5, none⟩ = some (.int .u64 g9)) := Lib.hid ((hBz.cell (p := ⟨be, oe + k * 8 + 5, none⟩) (World.block_lt_of_cell? _ _ y5X1.out)).trans y5X1.out)
        have y6J0 : Hid (X1.drew.cell? ⟨be, oe + k * 8 + 6, none⟩ = some (.int .u64 h9)) := Lib.hid ((hBz.cell (p := ⟨be, oe + k * 8 + 6, none⟩) (World.block_lt_of_cell? _ _ y6X1.out)).trans y6X1.out)
        have y7J0 : Hid (X1.drew.cell? ⟨be, oe + k * 8 + 7, none⟩ = some (.int .u64 u9)) := Lib.hid ((hBz.cell (p := ⟨be, oe + k * 8 + 7, none⟩) (World.block_lt_of_cell? _ _ y7X1.out)).trans y7X1.out)
        have z0J0 : Hid (X1.drew.cell? ⟨lg, i, none⟩ = some (.int .i64 (k : Int))) := Lib.hid ((hBz.cell (p := ⟨lg, i, none⟩) (World.block_lt_of_cell? _ _ z0X1.out)).trans z0X1.out)
        have z1J0 : Hid (X1.drew.cell? ⟨ln, i + 1, none⟩ = some (.int .i64 nx)) := Lib.hid ((hBz.cell (p := ⟨ln, i + 1, none⟩) (World.block_lt_of_cell? _ _ z1X1.out)).trans z1X1.out)
        have z2J0 : Hid (X1.drew.cell? ⟨la, i, none⟩ = some (.int .u64 ai)) := Lib.hid ((hBz.cell (p := ⟨la, i, none⟩) (World.block_lt_of_cell? _ _ z2X1.out)).trans z2X1.out)
        have z3J0 : Hid (X1.drew.cell? ⟨la, i - 1, none⟩ = some (.int .u64 ap)) := Lib.hid ((hBz.cell (p := ⟨la, i - 1, none⟩) (World.block_lt_of_cell? _ _ z3X1.out)).trans z3X1.out)
        have y8J0 : Hid (X1.drew.cell? ⟨be, oe + k * 8 + s1, none⟩ = some (.int .i64 nx)) := Lib.hid ((hBz.cell (p := ⟨be, oe + k * 8 + s1, none⟩) (World.block_lt_of_cell? _ _ y8X1.out)).trans y8X1.out)
        have y9J0 : Hid (X1.drew.cell? ⟨be, oe + k * 8 + 2 + sn, none⟩ = some (.int .u64 cn)) := Lib.hid ((hBz.cell (p := ⟨be, oe + k * 8 + 2 + sn, none⟩) (World.block_lt_of_cell? _ _ y9X1.out)).trans y9X1.out)
        clear hBz
        refine wp_region_held_drew (S := fun w' => Blk w' gq 31 [.slice sa1 sl sc1, .slice (some ⟨be, oe, none⟩) el ec1] ∧ Blk w' gt 89 [.slice (some ⟨ln, 0, none⟩) nl nc, .slice (some ⟨lg, 0, none⟩) ns gc, .slice (some ⟨la, 0, none⟩) ns ac] ∧ w'.cell? ⟨be, oe + k * 8 + s1, none⟩ = some (.int .i64 nx) ∧ w'.cell? ⟨be, oe + k * 8 + 2 + sn, none⟩ = some (.int .u64 cn) ∧ w'.cell? ⟨lg, i, none⟩ = some (.int .i64 (k : Int)) ∧ w'.cell? ⟨ln, i + 1, none⟩ = some (.int .i64 nx) ∧ w'.cell? ⟨la, i, none⟩ = some (.int .u64 ai) ∧ w'.cell? ⟨la, i - 1, none⟩ = some (.int .u64 ap)) (by kernel_rfl) (⟨QJ0.out, TJ0.out, y8J0.out, y9J0.out, z0J0.out, z1J0.out, z2J0.out, z3J0.out⟩) (fun hHeld => ?_)
        generalize X1.drew = J0 at hHeld QJ0 EJ0 KJ0 RJ0 OJ0 CJ0 BJ0 NJ0 GJ0 AJ0 TJ0 MJ0 y0J0 y1J0 y2J0 y3J0 y4J0 y5J0 y6J0 y7J0 z0J0 z1J0 z2J0 z3J0 y8J0 y9J0 ⊢
        refine wpAnyH_take (i := 0) (v := .int .i64 (sn : Int)) rfl (by kernel_rfl) (by kernel_rfl) (by kernel_rfl) (fun _ _ _ h => hpan _ _ _ _ _ h) (Or.inl ⟨by rfl, fun w _ => by rfl⟩) hHeld ?_
        show wpAnyH _ _ _ _ _ _ _ (Act.put _ (some 168) _) _
        simp only [Act.put, List.setIfInBounds_toArray, List.set_cons_zero, List.set_cons_succ]
        refine wpAnyH_take (i := 1) (v := .bool false) rfl (by kernel_rfl) (by kernel_rfl) (by kernel_rfl) (fun _ _ _ h => hpan _ _ _ _ _ h) (Or.inl ⟨by rfl, by intro w' h; have se := Hse.out; go_simp⟩) hHeld ?_
        show wpAnyH _ _ _ _ _ _ _ (Act.put _ (some 169) _) _
        simp only [Act.put, List.setIfInBounds_toArray, List.set_cons_zero, List.set_cons_succ]
        refine wpAnyH_take (i := 2) (v := .bool false) rfl (by kernel_rfl) (by kernel_rfl) (by kernel_rfl) (fun _ _ _ h => hpan _ _ _ _ _ h) (Or.inl ⟨by rfl, fun w _ => by rfl⟩) hHeld ?_
        show wpAnyH _ _ _ _ _ _ _ (Act.put _ (some 170) _) _
        simp only [Act.put, List.setIfInBounds_toArray, List.set_cons_zero, List.set_cons_succ]
        refine wpAnyH_take (i := 3) (v := .pointer (some ⟨gq, 1, none⟩)) rfl (by kernel_rfl) (by kernel_rfl) (by kernel_rfl) (fun _ _ _ h => hpan _ _ _ _ _ h) (Or.inl ⟨by rfl, by intro w' h; go_simp⟩) hHeld ?_
        show wpAnyH _ _ _ _ _ _ _ (Act.put _ (some 171) _) _
        simp only [Act.put, List.setIfInBounds_toArray, List.set_cons_zero, List.set_cons_succ]
        refine wpAnyH_take (i := 4) (v := .slice (some ⟨be, oe, none⟩) el ec1) rfl (by kernel_rfl) (by kernel_rfl) (by kernel_rfl) (fun _ _ _ h => hpan _ _ _ _ _ h) (Or.inl ⟨by rfl, by intro w' h; have k0 := Blk.cell h.1 1; simp only [List.getElem?_cons_zero, List.getElem?_cons_succ] at k0; go_simp⟩) hHeld ?_
        show wpAnyH _ _ _ _ _ _ _ (Act.put _ (some 172) _) _
        simp only [Act.put, List.setIfInBounds_toArray, List.set_cons_zero, List.set_cons_succ]
        refine wpAnyH_take (i := 5) (v := .pointer (some ⟨gt, 1, none⟩)) rfl (by kernel_rfl) (by kernel_rfl) (by kernel_rfl) (fun _ _ _ h => hpan _ _ _ _ _ h) (Or.inl ⟨by rfl, by intro w' h; go_simp⟩) hHeld ?_
        show wpAnyH _ _ _ _ _ _ _ (Act.put _ (some 173) _) _
        simp only [Act.put, List.setIfInBounds_toArray, List.set_cons_zero, List.set_cons_succ]
        refine wpAnyH_take (i := 6) (v := .slice (some ⟨lg, 0, none⟩) ns gc) rfl (by kernel_rfl) (by kernel_rfl) (by kernel_rfl) (fun _ _ _ h => hpan _ _ _ _ _ h) (Or.inl ⟨by rfl, by intro w' h; have k0 := Blk.cell h.2.1 1; simp only [List.getElem?_cons_zero, List.getElem?_cons_succ] at k0; go_simp⟩) hHeld ?_
        show wpAnyH _ _ _ _ _ _ _ (Act.put _ (some 174) _) _
        simp only [Act.put, List.setIfInBounds_toArray, List.set_cons_zero, List.set_cons_succ]
        refine wpAnyH_take (i := 7) (v := .int .i64 (i : Int)) rfl (by kernel_rfl) (by kernel_rfl) (by kernel_rfl) (fun _ _ _ h => hpan _ _ _ _ _ h) (Or.inl ⟨by rfl, fun w _ => by rfl⟩) hHeld ?_
        show wpAnyH _ _ _ _ _ _ _ (Act.put _ (some 175) _) _
        simp only [Act.put, List.setIfInBounds_toArray, List.set_cons_zero, List.set_cons_succ]
        refine wpAnyH_take (i := 8) (v := .pointer (some ⟨lg, i, none⟩)) rfl (by kernel_rfl) (by kernel_rfl) (by kernel_rfl) (fun _ _ _ h => hpan _ _ _ _ _ h) (Or.inl ⟨by rfl, by intro w' h; have il := Hil.out; go_simp⟩) hHeld ?_
        show wpAnyH _ _ _ _ _ _ _ (Act.put _ (some 176) _) _
        simp only [Act.put, List.setIfInBounds_toArray, List.set_cons_zero, List.set_cons_succ]
        refine wpAnyH_take (i := 9) (v := .int .i64 (k : Int)) rfl (by kernel_rfl) (by kernel_rfl) (by kernel_rfl) (fun _ _ _ h => hpan _ _ _ _ _ h) (Or.inl ⟨by rfl, by intro w' h; have q9 := h.2.2.2.2.1; go_simp⟩) hHeld ?_
        show wpAnyH _ _ _ _ _ _ _ (Act.put _ (some 177) _) _
        simp only [Act.put, List.setIfInBounds_toArray, List.set_cons_zero, List.set_cons_succ]
        refine wpAnyH_take (i := 10) (v := .int .i64 (sn : Int)) rfl (by kernel_rfl) (by kernel_rfl) (by kernel_rfl) (fun _ _ _ h => hpan _ _ _ _ _ h) (Or.inl ⟨by rfl, fun w _ => by rfl⟩) hHeld ?_
        show wpAnyH _ _ _ _ _ _ _ (Act.put _ (some 178) _) _
        simp only [Act.put, List.setIfInBounds_toArray, List.set_cons_zero, List.set_cons_succ]
        refine wpAnyH_take (i := 11) (v := .int .i64 (s1 : Int)) rfl (by kernel_rfl) (by kernel_rfl) (by kernel_rfl) (fun _ _ _ h => hpan _ _ _ _ _ h) (Or.inl ⟨by rfl, by intro w' h; have sw := Hsw.out; go_simp⟩) hHeld ?_
        show wpAnyH _ _ _ _ _ _ _ (Act.put _ (some 179) _) _
        simp only [Act.put, List.setIfInBounds_toArray, List.set_cons_zero, List.set_cons_succ]
        refine wpAnyH_take (i := 12) (v := .pointer (some ⟨be, oe + k * 8, none⟩)) rfl (by kernel_rfl) (by kernel_rfl) (by kernel_rfl) (fun _ _ _ h => hpan _ _ _ _ _ h) (Or.inl ⟨by rfl, by intro w' h; have kl := Hkl.out; go_simp⟩) hHeld ?_
        show wpAnyH _ _ _ _ _ _ _ (Act.put _ (some 180) _) _
        simp only [Act.put, List.setIfInBounds_toArray, List.set_cons_zero, List.set_cons_succ]
        refine wpAnyH_take (i := 13) (v := .pointer (some ⟨be, oe + k * 8, none⟩)) rfl (by kernel_rfl) (by kernel_rfl) (by kernel_rfl) (fun _ _ _ h => hpan _ _ _ _ _ h) (Or.inl ⟨by rfl, by intro w' h; go_simp⟩) hHeld ?_
        show wpAnyH _ _ _ _ _ _ _ (Act.put _ (some 181) _) _
        simp only [Act.put, List.setIfInBounds_toArray, List.set_cons_zero, List.set_cons_succ]
        refine wpAnyH_take (i := 14) (v := .pointer (some ⟨be, oe + k * 8 + s1, none⟩)) rfl (by kernel_rfl) (by kernel_rfl) (by kernel_rfl) (fun _ _ _ h => hpan _ _ _ _ _ h) (Or.inl ⟨by rfl, by intro w' h; have sa := Hsa.out; have sb := Hsb.out; go_simp⟩) hHeld ?_
        show wpAnyH _ _ _ _ _ _ _ (Act.put _ (some 182) _) _
        simp only [Act.put, List.setIfInBounds_toArray, List.set_cons_zero, List.set_cons_succ]
        refine wpAnyH_take (i := 15) (v := .int .i64 nx) rfl (by kernel_rfl) (by kernel_rfl) (by kernel_rfl) (fun _ _ _ h => hpan _ _ _ _ _ h) (Or.inl ⟨by rfl, by intro w' h; have q9 := h.2.2.1; go_simp⟩) hHeld ?_
        show wpAnyH _ _ _ _ _ _ _ (Act.put _ (some 183) _) _
        simp only [Act.put, List.setIfInBounds_toArray, List.set_cons_zero, List.set_cons_succ]
        refine wpAnyH_take (i := 16) (v := .pointer (some ⟨gt, 0, none⟩)) rfl (by kernel_rfl) (by kernel_rfl) (by kernel_rfl) (fun _ _ _ h => hpan _ _ _ _ _ h) (Or.inl ⟨by rfl, by intro w' h; go_simp⟩) hHeld ?_
        show wpAnyH _ _ _ _ _ _ _ (Act.put _ (some 184) _) _
        simp only [Act.put, List.setIfInBounds_toArray, List.set_cons_zero, List.set_cons_succ]
        refine wpAnyH_take (i := 17) (v := .slice (some ⟨ln, 0, none⟩) nl nc) rfl (by kernel_rfl) (by kernel_rfl) (by kernel_rfl) (fun _ _ _ h => hpan _ _ _ _ _ h) (Or.inl ⟨by rfl, by intro w' h; have k0 := Blk.cell h.2.1 0; simp only [List.getElem?_cons_zero] at k0; go_simp⟩) hHeld ?_
        show wpAnyH _ _ _ _ _ _ _ (Act.put _ (some 185) _) _
        simp only [Act.put, List.setIfInBounds_toArray, List.set_cons_zero, List.set_cons_succ]
        refine wpAnyH_take (i := 18) (v := .int .i64 (i : Int)) rfl (by kernel_rfl) (by kernel_rfl) (by kernel_rfl) (fun _ _ _ h => hpan _ _ _ _ _ h) (Or.inl ⟨by rfl, fun w _ => by rfl⟩) hHeld ?_
        show wpAnyH _ _ _ _ _ _ _ (Act.put _ (some 186) _) _
        simp only [Act.put, List.setIfInBounds_toArray, List.set_cons_zero, List.set_cons_succ]
        refine wpAnyH_take (i := 19) (v := .int .i64 ((i : Int) + 1)) rfl (by kernel_rfl) (by kernel_rfl) (by kernel_rfl) (fun _ _ _ h => hpan _ _ _ _ _ h) (Or.inl ⟨by rfl, by intro w' h; have iw := Hiw.out; go_simp⟩) hHeld ?_
        show wpAnyH _ _ _ _ _ _ _ (Act.put _ (some 187) _) _
        simp only [Act.put, List.setIfInBounds_toArray, List.set_cons_zero, List.set_cons_succ]
        refine wpAnyH_take (i := 20) (v := .pointer (some ⟨ln, i + 1, none⟩)) rfl (by kernel_rfl) (by kernel_rfl) (by kernel_rfl) (fun _ _ _ h => hpan _ _ _ _ _ h) (Or.inl ⟨by rfl, by intro w' h; have ix := Hix.out; have iy := Hiy.out; have iz := Hiz.out; go_simp⟩) hHeld ?_
        show wpAnyH _ _ _ _ _ _ _ (Act.put _ (some 188) _) _
        simp only [Act.put, List.setIfInBounds_toArray, List.set_cons_zero, List.set_cons_succ]
        refine wpAnyH_take (i := 21) (v := .int .i64 nx) rfl (by kernel_rfl) (by kernel_rfl) (by kernel_rfl) (fun _ _ _ h => hpan _ _ _ _ _ h) (Or.inl ⟨by rfl, by intro w' h; have q9 := h.2.2.2.2.2.1; go_simp⟩) hHeld ?_
        show wpAnyH _ _ _ _ _ _ _ (Act.put _ (some 189) _) _
        simp only [Act.put, List.setIfInBounds_toArray, List.set_cons_zero, List.set_cons_succ]
        refine wpAnyH_take (i := 22) (v := .bool false) rfl (by kernel_rfl) (by kernel_rfl) (by kernel_rfl) (fun _ _ _ h => hpan _ _ _ _ _ h) (Or.inl ⟨by rfl, by intro w' h; go_simp⟩) hHeld ?_
        show wpAnyH _ _ _ _ _ _ _ (Act.put _ (some 190) _) _
        simp only [Act.put, List.setIfInBounds_toArray, List.set_cons_zero, List.set_cons_succ]
        refine wpAnyH_take (i := 23) (v := .bool false) rfl (by kernel_rfl) (by kernel_rfl) (by kernel_rfl) (fun _ _ _ h => hpan _ _ _ _ _ h) (Or.inl ⟨by rfl, by intro w hSw; first | rfl | go_simp⟩) hHeld ?_
        show wpAnyH _ _ _ _ _ _ _ (Act.put _ (some 191) _) _
        simp only [Act.put, List.setIfInBounds_toArray, List.set_cons_zero, List.set_cons_succ]
        refine wpAnyH_take (i := 24) (v := .bool false) rfl (by kernel_rfl) (by kernel_rfl) (by kernel_rfl) (fun _ _ _ h => hpan _ _ _ _ _ h) (Or.inl ⟨by rfl, fun w _ => by rfl⟩) hHeld ?_
        show wpAnyH _ _ _ _ _ _ _ (Act.put _ (some 192) _) _
        simp only [Act.put, List.setIfInBounds_toArray, List.set_cons_zero, List.set_cons_succ]
        refine wpAnyH_take (i := 25) (v := .pointer (some ⟨gq, 1, none⟩)) rfl (by kernel_rfl) (by kernel_rfl) (by kernel_rfl) (fun _ _ _ h => hpan _ _ _ _ _ h) (Or.inl ⟨by rfl, by intro w' h; go_simp⟩) hHeld ?_
        show wpAnyH _ _ _ _ _ _ _ (Act.put _ (some 193) _) _
        simp only [Act.put, List.setIfInBounds_toArray, List.set_cons_zero, List.set_cons_succ]
        refine wpAnyH_take (i := 26) (v := .slice (some ⟨be, oe, none⟩) el ec1) rfl (by kernel_rfl) (by kernel_rfl) (by kernel_rfl) (fun _ _ _ h => hpan _ _ _ _ _ h) (Or.inl ⟨by rfl, by intro w' h; have k0 := Blk.cell h.1 1; simp only [List.getElem?_cons_zero, List.getElem?_cons_succ] at k0; go_simp⟩) hHeld ?_
        show wpAnyH _ _ _ _ _ _ _ (Act.put _ (some 194) _) _
        simp only [Act.put, List.setIfInBounds_toArray, List.set_cons_zero, List.set_cons_succ]
        refine wpAnyH_take (i := 27) (v := .pointer (some ⟨gt, 1, none⟩)) rfl (by kernel_rfl) (by kernel_rfl) (by kernel_rfl) (fun _ _ _ h => hpan _ _ _ _ _ h) (Or.inl ⟨by rfl, by intro w' h; go_simp⟩) hHeld ?_
        show wpAnyH _ _ _ _ _ _ _ (Act.put _ (some 195) _) _
        simp only [Act.put, List.setIfInBounds_toArray, List.set_cons_zero, List.set_cons_succ]
        refine wpAnyH_take (i := 28) (v := .slice (some ⟨lg, 0, none⟩) ns gc) rfl (by kernel_rfl) (by kernel_rfl) (by kernel_rfl) (fun _ _ _ h => hpan _ _ _ _ _ h) (Or.inl ⟨by rfl, by intro w' h; have k0 := Blk.cell h.2.1 1; simp only [List.getElem?_cons_zero, List.getElem?_cons_succ] at k0; go_simp⟩) hHeld ?_
        show wpAnyH _ _ _ _ _ _ _ (Act.put _ (some 196) _) _
        simp only [Act.put, List.setIfInBounds_toArray, List.set_cons_zero, List.set_cons_succ]
        refine wpAnyH_take (i := 29) (v := .int .i64 (i : Int)) rfl (by kernel_rfl) (by kernel_rfl) (by kernel_rfl) (fun _ _ _ h => hpan _ _ _ _ _ h) (Or.inl ⟨by rfl, fun w _ => by rfl⟩) hHeld ?_
        show wpAnyH _ _ _ _ _ _ _ (Act.put _ (some 197) _) _
        simp only [Act.put, List.setIfInBounds_toArray, List.set_cons_zero, List.set_cons_succ]
        refine wpAnyH_take (i := 30) (v := .pointer (some ⟨lg, i, none⟩)) rfl (by kernel_rfl) (by kernel_rfl) (by kernel_rfl) (fun _ _ _ h => hpan _ _ _ _ _ h) (Or.inl ⟨by rfl, by intro w' h; have il := Hil.out; go_simp⟩) hHeld ?_
        show wpAnyH _ _ _ _ _ _ _ (Act.put _ (some 198) _) _
        simp only [Act.put, List.setIfInBounds_toArray, List.set_cons_zero, List.set_cons_succ]
        refine wpAnyH_take (i := 31) (v := .int .i64 (k : Int)) rfl (by kernel_rfl) (by kernel_rfl) (by kernel_rfl) (fun _ _ _ h => hpan _ _ _ _ _ h) (Or.inl ⟨by rfl, by intro w' h; have q9 := h.2.2.2.2.1; go_simp⟩) hHeld ?_
        show wpAnyH _ _ _ _ _ _ _ (Act.put _ (some 199) _) _
        simp only [Act.put, List.setIfInBounds_toArray, List.set_cons_zero, List.set_cons_succ]
        refine wpAnyH_take (i := 32) (v := .int .i64 (sn : Int)) rfl (by kernel_rfl) (by kernel_rfl) (by kernel_rfl) (fun _ _ _ h => hpan _ _ _ _ _ h) (Or.inl ⟨by rfl, fun w _ => by rfl⟩) hHeld ?_
        show wpAnyH _ _ _ _ _ _ _ (Act.put _ (some 200) _) _
        simp only [Act.put, List.setIfInBounds_toArray, List.set_cons_zero, List.set_cons_succ]
        refine wpAnyH_take (i := 33) (v := .pointer (some ⟨be, oe + k * 8, none⟩)) rfl (by kernel_rfl) (by kernel_rfl) (by kernel_rfl) (fun _ _ _ h => hpan _ _ _ _ _ h) (Or.inl ⟨by rfl, by intro w' h; have kl := Hkl.out; go_simp⟩) hHeld ?_
        show wpAnyH _ _ _ _ _ _ _ (Act.put _ (some 201) _) _
        simp only [Act.put, List.setIfInBounds_toArray, List.set_cons_zero, List.set_cons_succ]
        refine wpAnyH_take (i := 34) (v := .pointer (some ⟨be, oe + k * 8 + 2, none⟩)) rfl (by kernel_rfl) (by kernel_rfl) (by kernel_rfl) (fun _ _ _ h => hpan _ _ _ _ _ h) (Or.inl ⟨by rfl, by intro w' h; go_simp⟩) hHeld ?_
        show wpAnyH _ _ _ _ _ _ _ (Act.put _ (some 202) _) _
        simp only [Act.put, List.setIfInBounds_toArray, List.set_cons_zero, List.set_cons_succ]
        refine wpAnyH_take (i := 35) (v := .pointer (some ⟨be, oe + k * 8 + 2 + sn, none⟩)) rfl (by kernel_rfl) (by kernel_rfl) (by kernel_rfl) (fun _ _ _ h => hpan _ _ _ _ _ h) (Or.inl ⟨by rfl, by intro w' h; have sc := Hsc.out; have sd := Hsd.out; go_simp⟩) hHeld ?_
        show wpAnyH _ _ _ _ _ _ _ (Act.put _ (some 203) _) _
        simp only [Act.put, List.setIfInBounds_toArray, List.set_cons_zero, List.set_cons_succ]
        refine wpAnyH_take (i := 36) (v := .int .u64 cn) rfl (by kernel_rfl) (by kernel_rfl) (by kernel_rfl) (fun _ _ _ h => hpan _ _ _ _ _ h) (Or.inl ⟨by rfl, by intro w' h; have q9 := h.2.2.2.1; go_simp⟩) hHeld ?_
        show wpAnyH _ _ _ _ _ _ _ (Act.put _ (some 204) _) _
        simp only [Act.put, List.setIfInBounds_toArray, List.set_cons_zero, List.set_cons_succ]
        refine wpAnyH_take (i := 37) (v := .pointer (some ⟨gt, 2, none⟩)) rfl (by kernel_rfl) (by kernel_rfl) (by kernel_rfl) (fun _ _ _ h => hpan _ _ _ _ _ h) (Or.inl ⟨by rfl, by intro w' h; go_simp⟩) hHeld ?_
        show wpAnyH _ _ _ _ _ _ _ (Act.put _ (some 205) _) _
        simp only [Act.put, List.setIfInBounds_toArray, List.set_cons_zero, List.set_cons_succ]
        refine wpAnyH_take (i := 38) (v := .slice (some ⟨la, 0, none⟩) ns ac) rfl (by kernel_rfl) (by kernel_rfl) (by kernel_rfl) (fun _ _ _ h => hpan _ _ _ _ _ h) (Or.inl ⟨by rfl, by intro w' h; have k0 := Blk.cell h.2.1 2; simp only [List.getElem?_cons_zero, List.getElem?_cons_succ] at k0; go_simp⟩) hHeld ?_
        show wpAnyH _ _ _ _ _ _ _ (Act.put _ (some 206) _) _
        simp only [Act.put, List.setIfInBounds_toArray, List.set_cons_zero, List.set_cons_succ]
        refine wpAnyH_take (i := 39) (v := .int .i64 (i : Int)) rfl (by kernel_rfl) (by kernel_rfl) (by kernel_rfl) (fun _ _ _ h => hpan _ _ _ _ _ h) (Or.inl ⟨by rfl, fun w _ => by rfl⟩) hHeld ?_
        show wpAnyH _ _ _ _ _ _ _ (Act.put _ (some 207) _) _
        simp only [Act.put, List.setIfInBounds_toArray, List.set_cons_zero, List.set_cons_succ]
        refine wpAnyH_take (i := 40) (v := .pointer (some ⟨la, i, none⟩)) rfl (by kernel_rfl) (by kernel_rfl) (by kernel_rfl) (fun _ _ _ h => hpan _ _ _ _ _ h) (Or.inl ⟨by rfl, by intro w' h; have il := Hil.out; go_simp⟩) hHeld ?_
        show wpAnyH _ _ _ _ _ _ _ (Act.put _ (some 208) _) _
        simp only [Act.put, List.setIfInBounds_toArray, List.set_cons_zero, List.set_cons_succ]
        refine wpAnyH_take (i := 41) (v := .int .u64 ai) rfl (by kernel_rfl) (by kernel_rfl) (by kernel_rfl) (fun _ _ _ h => hpan _ _ _ _ _ h) (Or.inl ⟨by rfl, by intro w' h; have q9 := h.2.2.2.2.2.2.1; go_simp⟩) hHeld ?_
        show wpAnyH _ _ _ _ _ _ _ (Act.put _ (some 209) _) _
        simp only [Act.put, List.setIfInBounds_toArray, List.set_cons_zero, List.set_cons_succ]
        refine wpAnyH_take (i := 42) (v := .bool false) rfl (by kernel_rfl) (by kernel_rfl) (by kernel_rfl) (fun _ _ _ h => hpan _ _ _ _ _ h) (Or.inl ⟨by rfl, by intro w' h; have lt := Hlt.out; go_simp⟩) hHeld ?_
        show wpAnyH _ _ _ _ _ _ _ (Act.put _ (some 210) _) _
        simp only [Act.put, List.setIfInBounds_toArray, List.set_cons_zero, List.set_cons_succ]
        refine wpAnyH_take (i := 43) (v := .bool false) rfl (by kernel_rfl) (by kernel_rfl) (by kernel_rfl) (fun _ _ _ h => hpan _ _ _ _ _ h) (Or.inl ⟨by rfl, by intro w hSw; first | rfl | go_simp⟩) hHeld ?_
        show wpAnyH _ _ _ _ _ _ _ (Act.put _ (some 211) _) _
        simp only [Act.put, List.setIfInBounds_toArray, List.set_cons_zero, List.set_cons_succ]
        refine wpAnyH_take (i := 44) (v := .bool false) rfl (by kernel_rfl) (by kernel_rfl) (by kernel_rfl) (fun _ _ _ h => hpan _ _ _ _ _ h) (Or.inl ⟨by rfl, fun w _ => by rfl⟩) hHeld ?_
        show wpAnyH _ _ _ _ _ _ _ (Act.put _ (some 212) _) _
        simp only [Act.put, List.setIfInBounds_toArray, List.set_cons_zero, List.set_cons_succ]
        refine wpAnyH_take (i := 45) (v := .int .i64 (i : Int)) rfl (by kernel_rfl) (by kernel_rfl) (by kernel_rfl) (fun _ _ _ h => hpan _ _ _ _ _ h) (Or.inl ⟨by rfl, fun w _ => by rfl⟩) hHeld ?_
        show wpAnyH _ _ _ _ _ _ _ (Act.put _ (some 213) _) _
        simp only [Act.put, List.setIfInBounds_toArray, List.set_cons_zero, List.set_cons_succ]
        refine wpAnyH_take (i := 46) (v := .bool false) rfl (by kernel_rfl) (by kernel_rfl) (by kernel_rfl) (fun _ _ _ h => hpan _ _ _ _ _ h) (Or.inl ⟨by rfl, by intro w' h; go_simp; first | done | exact Hd.out⟩) hHeld ?_
        show wpAnyH _ _ _ _ _ _ _ (Act.put _ (some 214) _) _
        simp only [Act.put, List.setIfInBounds_toArray, List.set_cons_zero, List.set_cons_succ]
        refine wpAnyH_take (i := 47) (v := .bool false) rfl (by kernel_rfl) (by kernel_rfl) (by kernel_rfl) (fun _ _ _ h => hpan _ _ _ _ _ h) (Or.inl ⟨by rfl, fun w _ => by rfl⟩) hHeld ?_
        show wpAnyH _ _ _ _ _ _ _ (Act.put _ (some 215) _) _
        simp only [Act.put, List.setIfInBounds_toArray, List.set_cons_zero, List.set_cons_succ]
        refine wpAnyH_take (i := 48) (v := undef) rfl (by kernel_rfl) (by kernel_rfl) (by kernel_rfl) (fun _ _ _ h => hpan _ _ _ _ _ h) (Or.inr ⟨by rfl, rfl⟩) hHeld ?_
        show wpAnyH _ _ _ _ _ _ _ (Act.put _ (some 216) _) _
        simp only [Act.put, List.setIfInBounds_toArray, List.set_cons_zero, List.set_cons_succ]
        refine wpAnyH_take (i := 49) (v := undef) rfl (by kernel_rfl) (by kernel_rfl) (by kernel_rfl) (fun _ _ _ h => hpan _ _ _ _ _ h) (Or.inr ⟨by rfl, rfl⟩) hHeld ?_
        show wpAnyH _ _ _ _ _ _ _ (Act.put _ (some 217) _) _
        simp only [Act.put, List.setIfInBounds_toArray, List.set_cons_zero, List.set_cons_succ]
        refine wpAnyH_take (i := 50) (v := undef) rfl (by kernel_rfl) (by kernel_rfl) (by kernel_rfl) (fun _ _ _ h => hpan _ _ _ _ _ h) (Or.inr ⟨by rfl, rfl⟩) hHeld ?_
        show wpAnyH _ _ _ _ _ _ _ (Act.put _ (some 218) _) _
        simp only [Act.put, List.setIfInBounds_toArray, List.set_cons_zero, List.set_cons_succ]
        refine wpAnyH_take (i := 51) (v := undef) rfl (by kernel_rfl) (by kernel_rfl) (by kernel_rfl) (fun _ _ _ h => hpan _ _ _ _ _ h) (Or.inr ⟨by rfl, rfl⟩) hHeld ?_
        show wpAnyH _ _ _ _ _ _ _ (Act.put _ (some 219) _) _
        simp only [Act.put, List.setIfInBounds_toArray, List.set_cons_zero, List.set_cons_succ]
        refine wpAnyH_take (i := 52) (v := undef) rfl (by kernel_rfl) (by kernel_rfl) (by kernel_rfl) (fun _ _ _ h => hpan _ _ _ _ _ h) (Or.inr ⟨by rfl, rfl⟩) hHeld ?_
        show wpAnyH _ _ _ _ _ _ _ (Act.put _ (some 220) _) _
        simp only [Act.put, List.setIfInBounds_toArray, List.set_cons_zero, List.set_cons_succ]
        refine wpAnyH_take (i := 53) (v := undef) rfl (by kernel_rfl) (by kernel_rfl) (by kernel_rfl) (fun _ _ _ h => hpan _ _ _ _ _ h) (Or.inr ⟨by rfl, rfl⟩) hHeld ?_
        show wpAnyH _ _ _ _ _ _ _ (Act.put _ (some 221) _) _
        simp only [Act.put, List.setIfInBounds_toArray, List.set_cons_zero, List.set_cons_succ]
        refine wpAnyH_take (i := 54) (v := undef) rfl (by kernel_rfl) (by kernel_rfl) (by kernel_rfl) (fun _ _ _ h => hpan _ _ _ _ _ h) (Or.inr ⟨by rfl, rfl⟩) hHeld ?_
        show wpAnyH _ _ _ _ _ _ _ (Act.put _ (some 222) _) _
        simp only [Act.put, List.setIfInBounds_toArray, List.set_cons_zero, List.set_cons_succ]
        refine wpAnyH_take (i := 55) (v := undef) rfl (by kernel_rfl) (by kernel_rfl) (by kernel_rfl) (fun _ _ _ h => hpan _ _ _ _ _ h) (Or.inr ⟨by rfl, rfl⟩) hHeld ?_
        show wpAnyH _ _ _ _ _ _ _ (Act.put _ (some 223) _) _
        simp only [Act.put, List.setIfInBounds_toArray, List.set_cons_zero, List.set_cons_succ]
        refine wpAnyH_take (i := 56) (v := undef) rfl (by kernel_rfl) (by kernel_rfl) (by kernel_rfl) (fun _ _ _ h => hpan _ _ _ _ _ h) (Or.inr ⟨by rfl, rfl⟩) hHeld ?_
        show wpAnyH _ _ _ _ _ _ _ (Act.put _ (some 224) _) _
        simp only [Act.put, List.setIfInBounds_toArray, List.set_cons_zero, List.set_cons_succ]
        refine wpAnyH_take (i := 57) (v := undef) rfl (by kernel_rfl) (by kernel_rfl) (by kernel_rfl) (fun _ _ _ h => hpan _ _ _ _ _ h) (Or.inr ⟨by rfl, rfl⟩) hHeld ?_
        show wpAnyH _ _ _ _ _ _ _ (Act.put _ (some 225) _) _
        simp only [Act.put, List.setIfInBounds_toArray, List.set_cons_zero, List.set_cons_succ]
        refine wpAnyH_take (i := 58) (v := undef) rfl (by kernel_rfl) (by kernel_rfl) (by kernel_rfl) (fun _ _ _ h => hpan _ _ _ _ _ h) (Or.inr ⟨by rfl, rfl⟩) hHeld ?_
        show wpAnyH _ _ _ _ _ _ _ (Act.put _ (some 226) _) _
        simp only [Act.put, List.setIfInBounds_toArray, List.set_cons_zero, List.set_cons_succ]
        refine wpAnyH_take (i := 59) (v := undef) rfl (by kernel_rfl) (by kernel_rfl) (by kernel_rfl) (fun _ _ _ h => hpan _ _ _ _ _ h) (Or.inr ⟨by rfl, rfl⟩) hHeld ?_
        show wpAnyH _ _ _ _ _ _ _ (Act.put _ (some 227) _) _
        simp only [Act.put, List.setIfInBounds_toArray, List.set_cons_zero, List.set_cons_succ]
        refine wpAnyH_take (i := 60) (v := .bool false) rfl (by kernel_rfl) (by kernel_rfl) (by kernel_rfl) (fun _ _ _ h => hpan _ _ _ _ _ h) (Or.inl ⟨by rfl, by intro w hSw; first | rfl | go_simp⟩) hHeld ?_
        show wpAnyH _ _ _ _ _ _ _ (Act.put _ (some 228) _) _
        simp only [Act.put, List.setIfInBounds_toArray, List.set_cons_zero, List.set_cons_succ]
        refine wpAnyH_take (i := 61) (v := .bool false) rfl (by kernel_rfl) (by kernel_rfl) (by kernel_rfl) (fun _ _ _ h => hpan _ _ _ _ _ h) (Or.inl ⟨by rfl, by intro w hSw; first | rfl | go_simp⟩) hHeld ?_
        show wpAnyH _ _ _ _ _ _ _ (Act.put _ (some 229) _) _
        simp only [Act.put, List.setIfInBounds_toArray, List.set_cons_zero, List.set_cons_succ]
        refine wpAnyH_done (by kernel_rfl) ?_ _
        clear hHeld
        go_wp2
        go_roundw
        case rel => exact ⟨i + 1, by omega, by go_num, QJ0, EJ0, KJ0, RJ0, OJ0, CJ0, BJ0, NJ0, GJ0, AJ0, TJ0, MJ0⟩
        case measure => exact meas nl i hiN
      · skip
        have Hd : Hid (0 < i) := Lib.hid (by omega)
        have Hip : Hid ((i : Int) - 1 = ((i - 1 : Nat) : Int)) := Lib.hid (by omega)
        have Hiv : Hid (IntKind.i64.wrap ((i - 1 : Nat) : Int) = ((i - 1 : Nat) : Int)) := Lib.hid (IntWalk.i64_in _ (by omega))
        have Hij : Hid (((i - 1 : Nat) : Int) < (ns : Int)) := Lib.hid (by omega)
        have Hlf : Hid (decide (ap < ai) = false) := Lib.hid (decide_eq_false (by have := Hfal.out (by omega); omega))
        clear hp
        have hBz : Below X1.heap.size X1 X1.drew := below_drewN (Below.refl _ _) 1
        have QJ0 : Hid (Blk X1.drew gq 31 [.slice sa1 sl sc1, .slice (some ⟨be, oe, none⟩) el ec1]) := Lib.hid (QX1.out.below hBz QX1.out.lt)
        have EJ0 : Hid (EdgeRow X1.drew (some ⟨be, oe, none⟩) es) := Lib.hid (EX1.out.below hBz)
        have KJ0 : Hid (Blk X1.drew gb 89 [.slice nb n1 ncb, .slice gb0 n2 gcb, .slice (some ⟨bb, 0, none⟩) n2 acb]) := Lib.hid (KX1.out.below hBz KX1.out.lt)
        have RJ0 : Hid (X1.drew.ownsRow bs 89 3 (.slice (some ⟨ag, 0, none⟩) N c) N (rtflat acc)) := Lib.hid (Mon.own_below RX1.out hBz)
        have OJ0 : Hid (∀ r ∈ acc, RtOk X1.drew bs amt r) := Lib.hid (fun r hr => rt_below (OX1.out r hr) hBz)
        have CJ0 : Hid (X1.drew.cell? ⟨bb, 0, none⟩ = some (.int .u64 bf)) := Lib.hid ((hBz.cell (p := ⟨bb, 0, none⟩) (World.block_lt_of_cell? _ _ CX1.out)).trans CX1.out)
        have BJ0 : Hid (Below w0.heap.size w0 X1.drew) := Lib.hid (BX1.out.trans (hBz.mono BX1.out.size))
        have NJ0 : Hid (X1.drew.ownsRow bs 3 1 (.slice (some ⟨ln, 0, none⟩) nl nc) nl (ins l)) := Lib.hid (Mon.own_below NX1.out hBz)
        have GJ0 : Hid (X1.drew.ownsRow bs 3 1 (.slice (some ⟨lg, 0, none⟩) ns gc) ns (ins (stE s))) := Lib.hid (Mon.own_below GX1.out hBz)
        have AJ0 : Hid (X1.drew.ownsRow bs 40 1 (.slice (some ⟨la, 0, none⟩) ns ac) ns (Mon.nums (amtsE amt s).2)) := Lib.hid (Mon.own_below AX1.out hBz)
        have TJ0 : Hid (Blk X1.drew gt 89 [.slice (some ⟨ln, 0, none⟩) nl nc, .slice (some ⟨lg, 0, none⟩) ns gc, .slice (some ⟨la, 0, none⟩) ns ac]) := Lib.hid (TX1.out.below hBz TX1.out.lt)
        have MJ0 : Hid (SMap X1.drew gm (l.take (i + 1))) := Lib.hid (MX1.out.below hBz)
        have y0J0 : Hid (X1.drew.cell? ⟨be, oe + k * 8, none⟩ = some (.int .i64 p)) := Lib.hid ((hBz.cell (p := ⟨be, oe + k * 8, none⟩) (World.block_lt_of_cell? _ _ y0X1.out)).trans y0X1.out)
        have y1J0 : Hid (X1.drew.cell? ⟨be, oe + k * 8 + 1, none⟩ = some (.int .i64 q)) := Lib.hid ((hBz.cell (p := ⟨be, oe + k * 8 + 1, none⟩) (World.block_lt_of_cell? _ _ y1X1.out)).trans y1X1.out)
        have y2J0 : Hid (X1.drew.cell? ⟨be, oe + k * 8 + 2, none⟩ = some (.int .u64 c9)) := Lib.hid ((hBz.cell (p := ⟨be, oe + k * 8 + 2, none⟩) (World.block_lt_of_cell? _ _ y2X1.out)).trans y2X1.out)
        have y3J0 : Hid (X1.drew.cell? ⟨be, oe + k * 8 + 3, none⟩ = some (.int .u64 d9)) := Lib.hid ((hBz.cell (p := ⟨be, oe + k * 8 + 3, none⟩) (World.block_lt_of_cell? _ _ y3X1.out)).trans y3X1.out)
        have y4J0 : Hid (X1.drew.cell? ⟨be, oe + k * 8 + 4, none⟩ = some (.int .u64 f9)) := Lib.hid ((hBz.cell (p := ⟨be, oe + k * 8 + 4, none⟩) (World.block_lt_of_cell? _ _ y4X1.out)).trans y4X1.out)
        have y5J0 : Hid (X1.drew.cell? ⟨be, oe + k * 8 + 5, none⟩ = some (.int .u64 g9)) := Lib.hid ((hBz.cell (p := ⟨be, oe + k * 8 + 5, none⟩) (World.block_lt_of_cell? _ _ y5X1.out)).trans y5X1.out)
        have y6J0 : Hid (X1.drew.cell? ⟨be, oe + k * 8 + 6, none⟩ = some (.int .u64 h9)) := Lib.hid ((hBz.cell (p := ⟨be, oe + k * 8 + 6, none⟩) (World.block_lt_of_cell? _ _ y6X1.out)).trans y6X1.out)
        have y7J0 : Hid (X1.drew.cell? ⟨be, oe + k * 8 + 7, none⟩ = some (.int .u64 u9)) := Lib.hid ((hBz.cell (p := ⟨be, oe + k * 8 + 7, none⟩) (World.block_lt_of_cell? _ _ y7X1.out)).trans y7X1.out)
        have z0J0 : Hid (X1.drew.cell? ⟨lg, i, none⟩ = some (.int .i64 (k : Int))) := Lib.hid ((hBz.cell (p := ⟨lg, i, none⟩) (World.block_lt_of_cell? _ _ z0X1.out)).trans z0X1.out)
        have z1J0 : Hid (X1.drew.cell? ⟨ln, i + 1, none⟩ = some (.int .i64 nx)) := Lib.hid ((hBz.cell (p := ⟨ln, i + 1, none⟩) (World.block_lt_of_cell? _ _ z1X1.out)).trans z1X1.out)
        have z2J0 : Hid (X1.drew.cell? ⟨la, i, none⟩ = some (.int .u64 ai)) := Lib.hid ((hBz.cell (p := ⟨la, i, none⟩) (World.block_lt_of_cell? _ _ z2X1.out)).trans z2X1.out)
        have z3J0 : Hid (X1.drew.cell? ⟨la, i - 1, none⟩ = some (.int .u64 ap)) := Lib.hid ((hBz.cell (p := ⟨la, i - 1, none⟩) (World.block_lt_of_cell? _ _ z3X1.out)).trans z3X1.out)
        have y8J0 : Hid (X1.drew.cell? ⟨be, oe + k * 8 + s1, none⟩ = some (.int .i64 nx)) := Lib.hid ((hBz.cell (p := ⟨be, oe + k * 8 + s1, none⟩) (World.block_lt_of_cell? _ _ y8X1.out)).trans y8X1.out)
        have y9J0 : Hid (X1.drew.cell? ⟨be, oe + k * 8 + 2 + sn, none⟩ = some (.int .u64 cn)) := Lib.hid ((hBz.cell (p := ⟨be, oe + k * 8 + 2 + sn, none⟩) (World.block_lt_of_cell? _ _ y9X1.out)).trans y9X1.out)
        clear hBz
        refine wp_region_held_drew (S := fun w' => Blk w' gq 31 [.slice sa1 sl sc1, .slice (some ⟨be, oe, none⟩) el ec1] ∧ Blk w' gt 89 [.slice (some ⟨ln, 0, none⟩) nl nc, .slice (some ⟨lg, 0, none⟩) ns gc, .slice (some ⟨la, 0, none⟩) ns ac] ∧ w'.cell? ⟨be, oe + k * 8 + s1, none⟩ = some (.int .i64 nx) ∧ w'.cell? ⟨be, oe + k * 8 + 2 + sn, none⟩ = some (.int .u64 cn) ∧ w'.cell? ⟨lg, i, none⟩ = some (.int .i64 (k : Int)) ∧ w'.cell? ⟨ln, i + 1, none⟩ = some (.int .i64 nx) ∧ w'.cell? ⟨la, i, none⟩ = some (.int .u64 ai) ∧ w'.cell? ⟨la, i - 1, none⟩ = some (.int .u64 ap)) (by kernel_rfl) (⟨QJ0.out, TJ0.out, y8J0.out, y9J0.out, z0J0.out, z1J0.out, z2J0.out, z3J0.out⟩) (fun hHeld => ?_)
        generalize X1.drew = J0 at hHeld QJ0 EJ0 KJ0 RJ0 OJ0 CJ0 BJ0 NJ0 GJ0 AJ0 TJ0 MJ0 y0J0 y1J0 y2J0 y3J0 y4J0 y5J0 y6J0 y7J0 z0J0 z1J0 z2J0 z3J0 y8J0 y9J0 ⊢
        refine wpAnyH_take (i := 0) (v := .int .i64 (sn : Int)) rfl (by kernel_rfl) (by kernel_rfl) (by kernel_rfl) (fun _ _ _ h => hpan _ _ _ _ _ h) (Or.inl ⟨by rfl, fun w _ => by rfl⟩) hHeld ?_
        show wpAnyH _ _ _ _ _ _ _ (Act.put _ (some 168) _) _
        simp only [Act.put, List.setIfInBounds_toArray, List.set_cons_zero, List.set_cons_succ]
        refine wpAnyH_take (i := 1) (v := .bool false) rfl (by kernel_rfl) (by kernel_rfl) (by kernel_rfl) (fun _ _ _ h => hpan _ _ _ _ _ h) (Or.inl ⟨by rfl, by intro w' h; have se := Hse.out; go_simp⟩) hHeld ?_
        show wpAnyH _ _ _ _ _ _ _ (Act.put _ (some 169) _) _
        simp only [Act.put, List.setIfInBounds_toArray, List.set_cons_zero, List.set_cons_succ]
        refine wpAnyH_take (i := 2) (v := .bool false) rfl (by kernel_rfl) (by kernel_rfl) (by kernel_rfl) (fun _ _ _ h => hpan _ _ _ _ _ h) (Or.inl ⟨by rfl, fun w _ => by rfl⟩) hHeld ?_
        show wpAnyH _ _ _ _ _ _ _ (Act.put _ (some 170) _) _
        simp only [Act.put, List.setIfInBounds_toArray, List.set_cons_zero, List.set_cons_succ]
        refine wpAnyH_take (i := 3) (v := .pointer (some ⟨gq, 1, none⟩)) rfl (by kernel_rfl) (by kernel_rfl) (by kernel_rfl) (fun _ _ _ h => hpan _ _ _ _ _ h) (Or.inl ⟨by rfl, by intro w' h; go_simp⟩) hHeld ?_
        show wpAnyH _ _ _ _ _ _ _ (Act.put _ (some 171) _) _
        simp only [Act.put, List.setIfInBounds_toArray, List.set_cons_zero, List.set_cons_succ]
        refine wpAnyH_take (i := 4) (v := .slice (some ⟨be, oe, none⟩) el ec1) rfl (by kernel_rfl) (by kernel_rfl) (by kernel_rfl) (fun _ _ _ h => hpan _ _ _ _ _ h) (Or.inl ⟨by rfl, by intro w' h; have k0 := Blk.cell h.1 1; simp only [List.getElem?_cons_zero, List.getElem?_cons_succ] at k0; go_simp⟩) hHeld ?_
        show wpAnyH _ _ _ _ _ _ _ (Act.put _ (some 172) _) _
        simp only [Act.put, List.setIfInBounds_toArray, List.set_cons_zero, List.set_cons_succ]
        refine wpAnyH_take (i := 5) (v := .pointer (some ⟨gt, 1, none⟩)) rfl (by kernel_rfl) (by kernel_rfl) (by kernel_rfl) (fun _ _ _ h => hpan _ _ _ _ _ h) (Or.inl ⟨by rfl, by intro w' h; go_simp⟩) hHeld ?_
        show wpAnyH _ _ _ _ _ _ _ (Act.put _ (some 173) _) _
        simp only [Act.put, List.setIfInBounds_toArray, List.set_cons_zero, List.set_cons_succ]
        refine wpAnyH_take (i := 6) (v := .slice (some ⟨lg, 0, none⟩) ns gc) rfl (by kernel_rfl) (by kernel_rfl) (by kernel_rfl) (fun _ _ _ h => hpan _ _ _ _ _ h) (Or.inl ⟨by rfl, by intro w' h; have k0 := Blk.cell h.2.1 1; simp only [List.getElem?_cons_zero, List.getElem?_cons_succ] at k0; go_simp⟩) hHeld ?_
        show wpAnyH _ _ _ _ _ _ _ (Act.put _ (some 174) _) _
        simp only [Act.put, List.setIfInBounds_toArray, List.set_cons_zero, List.set_cons_succ]
        refine wpAnyH_take (i := 7) (v := .int .i64 (i : Int)) rfl (by kernel_rfl) (by kernel_rfl) (by kernel_rfl) (fun _ _ _ h => hpan _ _ _ _ _ h) (Or.inl ⟨by rfl, fun w _ => by rfl⟩) hHeld ?_
        show wpAnyH _ _ _ _ _ _ _ (Act.put _ (some 175) _) _
        simp only [Act.put, List.setIfInBounds_toArray, List.set_cons_zero, List.set_cons_succ]
        refine wpAnyH_take (i := 8) (v := .pointer (some ⟨lg, i, none⟩)) rfl (by kernel_rfl) (by kernel_rfl) (by kernel_rfl) (fun _ _ _ h => hpan _ _ _ _ _ h) (Or.inl ⟨by rfl, by intro w' h; have il := Hil.out; go_simp⟩) hHeld ?_
        show wpAnyH _ _ _ _ _ _ _ (Act.put _ (some 176) _) _
        simp only [Act.put, List.setIfInBounds_toArray, List.set_cons_zero, List.set_cons_succ]
        refine wpAnyH_take (i := 9) (v := .int .i64 (k : Int)) rfl (by kernel_rfl) (by kernel_rfl) (by kernel_rfl) (fun _ _ _ h => hpan _ _ _ _ _ h) (Or.inl ⟨by rfl, by intro w' h; have q9 := h.2.2.2.2.1; go_simp⟩) hHeld ?_
        show wpAnyH _ _ _ _ _ _ _ (Act.put _ (some 177) _) _
        simp only [Act.put, List.setIfInBounds_toArray, List.set_cons_zero, List.set_cons_succ]
        refine wpAnyH_take (i := 10) (v := .int .i64 (sn : Int)) rfl (by kernel_rfl) (by kernel_rfl) (by kernel_rfl) (fun _ _ _ h => hpan _ _ _ _ _ h) (Or.inl ⟨by rfl, fun w _ => by rfl⟩) hHeld ?_
        show wpAnyH _ _ _ _ _ _ _ (Act.put _ (some 178) _) _
        simp only [Act.put, List.setIfInBounds_toArray, List.set_cons_zero, List.set_cons_succ]
        refine wpAnyH_take (i := 11) (v := .int .i64 (s1 : Int)) rfl (by kernel_rfl) (by kernel_rfl) (by kernel_rfl) (fun _ _ _ h => hpan _ _ _ _ _ h) (Or.inl ⟨by rfl, by intro w' h; have sw := Hsw.out; go_simp⟩) hHeld ?_
        show wpAnyH _ _ _ _ _ _ _ (Act.put _ (some 179) _) _
        simp only [Act.put, List.setIfInBounds_toArray, List.set_cons_zero, List.set_cons_succ]
        refine wpAnyH_take (i := 12) (v := .pointer (some ⟨be, oe + k * 8, none⟩)) rfl (by kernel_rfl) (by kernel_rfl) (by kernel_rfl) (fun _ _ _ h => hpan _ _ _ _ _ h) (Or.inl ⟨by rfl, by intro w' h; have kl := Hkl.out; go_simp⟩) hHeld ?_
        show wpAnyH _ _ _ _ _ _ _ (Act.put _ (some 180) _) _
        simp only [Act.put, List.setIfInBounds_toArray, List.set_cons_zero, List.set_cons_succ]
        refine wpAnyH_take (i := 13) (v := .pointer (some ⟨be, oe + k * 8, none⟩)) rfl (by kernel_rfl) (by kernel_rfl) (by kernel_rfl) (fun _ _ _ h => hpan _ _ _ _ _ h) (Or.inl ⟨by rfl, by intro w' h; go_simp⟩) hHeld ?_
        show wpAnyH _ _ _ _ _ _ _ (Act.put _ (some 181) _) _
        simp only [Act.put, List.setIfInBounds_toArray, List.set_cons_zero, List.set_cons_succ]
        refine wpAnyH_take (i := 14) (v := .pointer (some ⟨be, oe + k * 8 + s1, none⟩)) rfl (by kernel_rfl) (by kernel_rfl) (by kernel_rfl) (fun _ _ _ h => hpan _ _ _ _ _ h) (Or.inl ⟨by rfl, by intro w' h; have sa := Hsa.out; have sb := Hsb.out; go_simp⟩) hHeld ?_
        show wpAnyH _ _ _ _ _ _ _ (Act.put _ (some 182) _) _
        simp only [Act.put, List.setIfInBounds_toArray, List.set_cons_zero, List.set_cons_succ]
        refine wpAnyH_take (i := 15) (v := .int .i64 nx) rfl (by kernel_rfl) (by kernel_rfl) (by kernel_rfl) (fun _ _ _ h => hpan _ _ _ _ _ h) (Or.inl ⟨by rfl, by intro w' h; have q9 := h.2.2.1; go_simp⟩) hHeld ?_
        show wpAnyH _ _ _ _ _ _ _ (Act.put _ (some 183) _) _
        simp only [Act.put, List.setIfInBounds_toArray, List.set_cons_zero, List.set_cons_succ]
        refine wpAnyH_take (i := 16) (v := .pointer (some ⟨gt, 0, none⟩)) rfl (by kernel_rfl) (by kernel_rfl) (by kernel_rfl) (fun _ _ _ h => hpan _ _ _ _ _ h) (Or.inl ⟨by rfl, by intro w' h; go_simp⟩) hHeld ?_
        show wpAnyH _ _ _ _ _ _ _ (Act.put _ (some 184) _) _
        simp only [Act.put, List.setIfInBounds_toArray, List.set_cons_zero, List.set_cons_succ]
        refine wpAnyH_take (i := 17) (v := .slice (some ⟨ln, 0, none⟩) nl nc) rfl (by kernel_rfl) (by kernel_rfl) (by kernel_rfl) (fun _ _ _ h => hpan _ _ _ _ _ h) (Or.inl ⟨by rfl, by intro w' h; have k0 := Blk.cell h.2.1 0; simp only [List.getElem?_cons_zero] at k0; go_simp⟩) hHeld ?_
        show wpAnyH _ _ _ _ _ _ _ (Act.put _ (some 185) _) _
        simp only [Act.put, List.setIfInBounds_toArray, List.set_cons_zero, List.set_cons_succ]
        refine wpAnyH_take (i := 18) (v := .int .i64 (i : Int)) rfl (by kernel_rfl) (by kernel_rfl) (by kernel_rfl) (fun _ _ _ h => hpan _ _ _ _ _ h) (Or.inl ⟨by rfl, fun w _ => by rfl⟩) hHeld ?_
        show wpAnyH _ _ _ _ _ _ _ (Act.put _ (some 186) _) _
        simp only [Act.put, List.setIfInBounds_toArray, List.set_cons_zero, List.set_cons_succ]
        refine wpAnyH_take (i := 19) (v := .int .i64 ((i : Int) + 1)) rfl (by kernel_rfl) (by kernel_rfl) (by kernel_rfl) (fun _ _ _ h => hpan _ _ _ _ _ h) (Or.inl ⟨by rfl, by intro w' h; have iw := Hiw.out; go_simp⟩) hHeld ?_
        show wpAnyH _ _ _ _ _ _ _ (Act.put _ (some 187) _) _
        simp only [Act.put, List.setIfInBounds_toArray, List.set_cons_zero, List.set_cons_succ]
        refine wpAnyH_take (i := 20) (v := .pointer (some ⟨ln, i + 1, none⟩)) rfl (by kernel_rfl) (by kernel_rfl) (by kernel_rfl) (fun _ _ _ h => hpan _ _ _ _ _ h) (Or.inl ⟨by rfl, by intro w' h; have ix := Hix.out; have iy := Hiy.out; have iz := Hiz.out; go_simp⟩) hHeld ?_
        show wpAnyH _ _ _ _ _ _ _ (Act.put _ (some 188) _) _
        simp only [Act.put, List.setIfInBounds_toArray, List.set_cons_zero, List.set_cons_succ]
        refine wpAnyH_take (i := 21) (v := .int .i64 nx) rfl (by kernel_rfl) (by kernel_rfl) (by kernel_rfl) (fun _ _ _ h => hpan _ _ _ _ _ h) (Or.inl ⟨by rfl, by intro w' h; have q9 := h.2.2.2.2.2.1; go_simp⟩) hHeld ?_
        show wpAnyH _ _ _ _ _ _ _ (Act.put _ (some 189) _) _
        simp only [Act.put, List.setIfInBounds_toArray, List.set_cons_zero, List.set_cons_succ]
        refine wpAnyH_take (i := 22) (v := .bool false) rfl (by kernel_rfl) (by kernel_rfl) (by kernel_rfl) (fun _ _ _ h => hpan _ _ _ _ _ h) (Or.inl ⟨by rfl, by intro w' h; go_simp⟩) hHeld ?_
        show wpAnyH _ _ _ _ _ _ _ (Act.put _ (some 190) _) _
        simp only [Act.put, List.setIfInBounds_toArray, List.set_cons_zero, List.set_cons_succ]
        refine wpAnyH_take (i := 23) (v := .bool false) rfl (by kernel_rfl) (by kernel_rfl) (by kernel_rfl) (fun _ _ _ h => hpan _ _ _ _ _ h) (Or.inl ⟨by rfl, by intro w hSw; first | rfl | go_simp⟩) hHeld ?_
        show wpAnyH _ _ _ _ _ _ _ (Act.put _ (some 191) _) _
        simp only [Act.put, List.setIfInBounds_toArray, List.set_cons_zero, List.set_cons_succ]
        refine wpAnyH_take (i := 24) (v := .bool false) rfl (by kernel_rfl) (by kernel_rfl) (by kernel_rfl) (fun _ _ _ h => hpan _ _ _ _ _ h) (Or.inl ⟨by rfl, fun w _ => by rfl⟩) hHeld ?_
        show wpAnyH _ _ _ _ _ _ _ (Act.put _ (some 192) _) _
        simp only [Act.put, List.setIfInBounds_toArray, List.set_cons_zero, List.set_cons_succ]
        refine wpAnyH_take (i := 25) (v := .pointer (some ⟨gq, 1, none⟩)) rfl (by kernel_rfl) (by kernel_rfl) (by kernel_rfl) (fun _ _ _ h => hpan _ _ _ _ _ h) (Or.inl ⟨by rfl, by intro w' h; go_simp⟩) hHeld ?_
        show wpAnyH _ _ _ _ _ _ _ (Act.put _ (some 193) _) _
        simp only [Act.put, List.setIfInBounds_toArray, List.set_cons_zero, List.set_cons_succ]
        refine wpAnyH_take (i := 26) (v := .slice (some ⟨be, oe, none⟩) el ec1) rfl (by kernel_rfl) (by kernel_rfl) (by kernel_rfl) (fun _ _ _ h => hpan _ _ _ _ _ h) (Or.inl ⟨by rfl, by intro w' h; have k0 := Blk.cell h.1 1; simp only [List.getElem?_cons_zero, List.getElem?_cons_succ] at k0; go_simp⟩) hHeld ?_
        show wpAnyH _ _ _ _ _ _ _ (Act.put _ (some 194) _) _
        simp only [Act.put, List.setIfInBounds_toArray, List.set_cons_zero, List.set_cons_succ]
        refine wpAnyH_take (i := 27) (v := .pointer (some ⟨gt, 1, none⟩)) rfl (by kernel_rfl) (by kernel_rfl) (by kernel_rfl) (fun _ _ _ h => hpan _ _ _ _ _ h) (Or.inl ⟨by rfl, by intro w' h; go_simp⟩) hHeld ?_
        show wpAnyH _ _ _ _ _ _ _ (Act.put _ (some 195) _) _
        simp only [Act.put, List.setIfInBounds_toArray, List.set_cons_zero, List.set_cons_succ]
        refine wpAnyH_take (i := 28) (v := .slice (some ⟨lg, 0, none⟩) ns gc) rfl (by kernel_rfl) (by kernel_rfl) (by kernel_rfl) (fun _ _ _ h => hpan _ _ _ _ _ h) (Or.inl ⟨by rfl, by intro w' h; have k0 := Blk.cell h.2.1 1; simp only [List.getElem?_cons_zero, List.getElem?_cons_succ] at k0; go_simp⟩) hHeld ?_
        show wpAnyH _ _ _ _ _ _ _ (Act.put _ (some 196) _) _
        simp only [Act.put, List.setIfInBounds_toArray, List.set_cons_zero, List.set_cons_succ]
        refine wpAnyH_take (i := 29) (v := .int .i64 (i : Int)) rfl (by kernel_rfl) (by kernel_rfl) (by kernel_rfl) (fun _ _ _ h => hpan _ _ _ _ _ h) (Or.inl ⟨by rfl, fun w _ => by rfl⟩) hHeld ?_
        show wpAnyH _ _ _ _ _ _ _ (Act.put _ (some 197) _) _
        simp only [Act.put, List.setIfInBounds_toArray, List.set_cons_zero, List.set_cons_succ]
        refine wpAnyH_take (i := 30) (v := .pointer (some ⟨lg, i, none⟩)) rfl (by kernel_rfl) (by kernel_rfl) (by kernel_rfl) (fun _ _ _ h => hpan _ _ _ _ _ h) (Or.inl ⟨by rfl, by intro w' h; have il := Hil.out; go_simp⟩) hHeld ?_
        show wpAnyH _ _ _ _ _ _ _ (Act.put _ (some 198) _) _
        simp only [Act.put, List.setIfInBounds_toArray, List.set_cons_zero, List.set_cons_succ]
        refine wpAnyH_take (i := 31) (v := .int .i64 (k : Int)) rfl (by kernel_rfl) (by kernel_rfl) (by kernel_rfl) (fun _ _ _ h => hpan _ _ _ _ _ h) (Or.inl ⟨by rfl, by intro w' h; have q9 := h.2.2.2.2.1; go_simp⟩) hHeld ?_
        show wpAnyH _ _ _ _ _ _ _ (Act.put _ (some 199) _) _
        simp only [Act.put, List.setIfInBounds_toArray, List.set_cons_zero, List.set_cons_succ]
        refine wpAnyH_take (i := 32) (v := .int .i64 (sn : Int)) rfl (by kernel_rfl) (by kernel_rfl) (by kernel_rfl) (fun _ _ _ h => hpan _ _ _ _ _ h) (Or.inl ⟨by rfl, fun w _ => by rfl⟩) hHeld ?_
        show wpAnyH _ _ _ _ _ _ _ (Act.put _ (some 200) _) _
        simp only [Act.put, List.setIfInBounds_toArray, List.set_cons_zero, List.set_cons_succ]
        refine wpAnyH_take (i := 33) (v := .pointer (some ⟨be, oe + k * 8, none⟩)) rfl (by kernel_rfl) (by kernel_rfl) (by kernel_rfl) (fun _ _ _ h => hpan _ _ _ _ _ h) (Or.inl ⟨by rfl, by intro w' h; have kl := Hkl.out; go_simp⟩) hHeld ?_
        show wpAnyH _ _ _ _ _ _ _ (Act.put _ (some 201) _) _
        simp only [Act.put, List.setIfInBounds_toArray, List.set_cons_zero, List.set_cons_succ]
        refine wpAnyH_take (i := 34) (v := .pointer (some ⟨be, oe + k * 8 + 2, none⟩)) rfl (by kernel_rfl) (by kernel_rfl) (by kernel_rfl) (fun _ _ _ h => hpan _ _ _ _ _ h) (Or.inl ⟨by rfl, by intro w' h; go_simp⟩) hHeld ?_
        show wpAnyH _ _ _ _ _ _ _ (Act.put _ (some 202) _) _
        simp only [Act.put, List.setIfInBounds_toArray, List.set_cons_zero, List.set_cons_succ]
        refine wpAnyH_take (i := 35) (v := .pointer (some ⟨be, oe + k * 8 + 2 + sn, none⟩)) rfl (by kernel_rfl) (by kernel_rfl) (by kernel_rfl) (fun _ _ _ h => hpan _ _ _ _ _ h) (Or.inl ⟨by rfl, by intro w' h; have sc := Hsc.out; have sd := Hsd.out; go_simp⟩) hHeld ?_
        show wpAnyH _ _ _ _ _ _ _ (Act.put _ (some 203) _) _
        simp only [Act.put, List.setIfInBounds_toArray, List.set_cons_zero, List.set_cons_succ]
        refine wpAnyH_take (i := 36) (v := .int .u64 cn) rfl (by kernel_rfl) (by kernel_rfl) (by kernel_rfl) (fun _ _ _ h => hpan _ _ _ _ _ h) (Or.inl ⟨by rfl, by intro w' h; have q9 := h.2.2.2.1; go_simp⟩) hHeld ?_
        show wpAnyH _ _ _ _ _ _ _ (Act.put _ (some 204) _) _
        simp only [Act.put, List.setIfInBounds_toArray, List.set_cons_zero, List.set_cons_succ]
        refine wpAnyH_take (i := 37) (v := .pointer (some ⟨gt, 2, none⟩)) rfl (by kernel_rfl) (by kernel_rfl) (by kernel_rfl) (fun _ _ _ h => hpan _ _ _ _ _ h) (Or.inl ⟨by rfl, by intro w' h; go_simp⟩) hHeld ?_
        show wpAnyH _ _ _ _ _ _ _ (Act.put _ (some 205) _) _
        simp only [Act.put, List.setIfInBounds_toArray, List.set_cons_zero, List.set_cons_succ]
        refine wpAnyH_take (i := 38) (v := .slice (some ⟨la, 0, none⟩) ns ac) rfl (by kernel_rfl) (by kernel_rfl) (by kernel_rfl) (fun _ _ _ h => hpan _ _ _ _ _ h) (Or.inl ⟨by rfl, by intro w' h; have k0 := Blk.cell h.2.1 2; simp only [List.getElem?_cons_zero, List.getElem?_cons_succ] at k0; go_simp⟩) hHeld ?_
        show wpAnyH _ _ _ _ _ _ _ (Act.put _ (some 206) _) _
        simp only [Act.put, List.setIfInBounds_toArray, List.set_cons_zero, List.set_cons_succ]
        refine wpAnyH_take (i := 39) (v := .int .i64 (i : Int)) rfl (by kernel_rfl) (by kernel_rfl) (by kernel_rfl) (fun _ _ _ h => hpan _ _ _ _ _ h) (Or.inl ⟨by rfl, fun w _ => by rfl⟩) hHeld ?_
        show wpAnyH _ _ _ _ _ _ _ (Act.put _ (some 207) _) _
        simp only [Act.put, List.setIfInBounds_toArray, List.set_cons_zero, List.set_cons_succ]
        refine wpAnyH_take (i := 40) (v := .pointer (some ⟨la, i, none⟩)) rfl (by kernel_rfl) (by kernel_rfl) (by kernel_rfl) (fun _ _ _ h => hpan _ _ _ _ _ h) (Or.inl ⟨by rfl, by intro w' h; have il := Hil.out; go_simp⟩) hHeld ?_
        show wpAnyH _ _ _ _ _ _ _ (Act.put _ (some 208) _) _
        simp only [Act.put, List.setIfInBounds_toArray, List.set_cons_zero, List.set_cons_succ]
        refine wpAnyH_take (i := 41) (v := .int .u64 ai) rfl (by kernel_rfl) (by kernel_rfl) (by kernel_rfl) (fun _ _ _ h => hpan _ _ _ _ _ h) (Or.inl ⟨by rfl, by intro w' h; have q9 := h.2.2.2.2.2.2.1; go_simp⟩) hHeld ?_
        show wpAnyH _ _ _ _ _ _ _ (Act.put _ (some 209) _) _
        simp only [Act.put, List.setIfInBounds_toArray, List.set_cons_zero, List.set_cons_succ]
        refine wpAnyH_take (i := 42) (v := .bool false) rfl (by kernel_rfl) (by kernel_rfl) (by kernel_rfl) (fun _ _ _ h => hpan _ _ _ _ _ h) (Or.inl ⟨by rfl, by intro w' h; have lt := Hlt.out; go_simp⟩) hHeld ?_
        show wpAnyH _ _ _ _ _ _ _ (Act.put _ (some 210) _) _
        simp only [Act.put, List.setIfInBounds_toArray, List.set_cons_zero, List.set_cons_succ]
        refine wpAnyH_take (i := 43) (v := .bool false) rfl (by kernel_rfl) (by kernel_rfl) (by kernel_rfl) (fun _ _ _ h => hpan _ _ _ _ _ h) (Or.inl ⟨by rfl, by intro w hSw; first | rfl | go_simp⟩) hHeld ?_
        show wpAnyH _ _ _ _ _ _ _ (Act.put _ (some 211) _) _
        simp only [Act.put, List.setIfInBounds_toArray, List.set_cons_zero, List.set_cons_succ]
        refine wpAnyH_take (i := 44) (v := .bool false) rfl (by kernel_rfl) (by kernel_rfl) (by kernel_rfl) (fun _ _ _ h => hpan _ _ _ _ _ h) (Or.inl ⟨by rfl, fun w _ => by rfl⟩) hHeld ?_
        show wpAnyH _ _ _ _ _ _ _ (Act.put _ (some 212) _) _
        simp only [Act.put, List.setIfInBounds_toArray, List.set_cons_zero, List.set_cons_succ]
        refine wpAnyH_take (i := 45) (v := .int .i64 (i : Int)) rfl (by kernel_rfl) (by kernel_rfl) (by kernel_rfl) (fun _ _ _ h => hpan _ _ _ _ _ h) (Or.inl ⟨by rfl, fun w _ => by rfl⟩) hHeld ?_
        show wpAnyH _ _ _ _ _ _ _ (Act.put _ (some 213) _) _
        simp only [Act.put, List.setIfInBounds_toArray, List.set_cons_zero, List.set_cons_succ]
        refine wpAnyH_take (i := 46) (v := .bool true) rfl (by kernel_rfl) (by kernel_rfl) (by kernel_rfl) (fun _ _ _ h => hpan _ _ _ _ _ h) (Or.inl ⟨by rfl, by intro w' h; go_simp; first | done | exact Hd.out⟩) hHeld ?_
        show wpAnyH _ _ _ _ _ _ _ (Act.put _ (some 214) _) _
        simp only [Act.put, List.setIfInBounds_toArray, List.set_cons_zero, List.set_cons_succ]
        refine wpAnyH_take (i := 47) (v := .bool true) rfl (by kernel_rfl) (by kernel_rfl) (by kernel_rfl) (fun _ _ _ h => hpan _ _ _ _ _ h) (Or.inl ⟨by rfl, fun w _ => by rfl⟩) hHeld ?_
        show wpAnyH _ _ _ _ _ _ _ (Act.put _ (some 215) _) _
        simp only [Act.put, List.setIfInBounds_toArray, List.set_cons_zero, List.set_cons_succ]
        refine wpAnyH_take (i := 48) (v := .pointer (some ⟨gt, 2, none⟩)) rfl (by kernel_rfl) (by kernel_rfl) (by kernel_rfl) (fun _ _ _ h => hpan _ _ _ _ _ h) (Or.inl ⟨by rfl, by intro w' h; go_simp⟩) hHeld ?_
        show wpAnyH _ _ _ _ _ _ _ (Act.put _ (some 216) _) _
        simp only [Act.put, List.setIfInBounds_toArray, List.set_cons_zero, List.set_cons_succ]
        refine wpAnyH_take (i := 49) (v := .slice (some ⟨la, 0, none⟩) ns ac) rfl (by kernel_rfl) (by kernel_rfl) (by kernel_rfl) (fun _ _ _ h => hpan _ _ _ _ _ h) (Or.inl ⟨by rfl, by intro w' h; have k0 := Blk.cell h.2.1 2; simp only [List.getElem?_cons_zero, List.getElem?_cons_succ] at k0; go_simp⟩) hHeld ?_
        show wpAnyH _ _ _ _ _ _ _ (Act.put _ (some 217) _) _
        simp only [Act.put, List.setIfInBounds_toArray, List.set_cons_zero, List.set_cons_succ]
        refine wpAnyH_take (i := 50) (v := .int .i64 (i : Int)) rfl (by kernel_rfl) (by kernel_rfl) (by kernel_rfl) (fun _ _ _ h => hpan _ _ _ _ _ h) (Or.inl ⟨by rfl, fun w _ => by rfl⟩) hHeld ?_
        show wpAnyH _ _ _ _ _ _ _ (Act.put _ (some 218) _) _
        simp only [Act.put, List.setIfInBounds_toArray, List.set_cons_zero, List.set_cons_succ]
        refine wpAnyH_take (i := 51) (v := .pointer (some ⟨la, i, none⟩)) rfl (by kernel_rfl) (by kernel_rfl) (by kernel_rfl) (fun _ _ _ h => hpan _ _ _ _ _ h) (Or.inl ⟨by rfl, by intro w' h; have il := Hil.out; go_simp⟩) hHeld ?_
        show wpAnyH _ _ _ _ _ _ _ (Act.put _ (some 219) _) _
        simp only [Act.put, List.setIfInBounds_toArray, List.set_cons_zero, List.set_cons_succ]
        refine wpAnyH_take (i := 52) (v := .int .u64 ai) rfl (by kernel_rfl) (by kernel_rfl) (by kernel_rfl) (fun _ _ _ h => hpan _ _ _ _ _ h) (Or.inl ⟨by rfl, by intro w' h; have q9 := h.2.2.2.2.2.2.1; go_simp⟩) hHeld ?_
        show wpAnyH _ _ _ _ _ _ _ (Act.put _ (some 220) _) _
        simp only [Act.put, List.setIfInBounds_toArray, List.set_cons_zero, List.set_cons_succ]
        refine wpAnyH_take (i := 53) (v := .pointer (some ⟨gt, 2, none⟩)) rfl (by kernel_rfl) (by kernel_rfl) (by kernel_rfl) (fun _ _ _ h => hpan _ _ _ _ _ h) (Or.inl ⟨by rfl, by intro w' h; go_simp⟩) hHeld ?_
        show wpAnyH _ _ _ _ _ _ _ (Act.put _ (some 221) _) _
        simp only [Act.put, List.setIfInBounds_toArray, List.set_cons_zero, List.set_cons_succ]
        refine wpAnyH_take (i := 54) (v := .slice (some ⟨la, 0, none⟩) ns ac) rfl (by kernel_rfl) (by kernel_rfl) (by kernel_rfl) (fun _ _ _ h => hpan _ _ _ _ _ h) (Or.inl ⟨by rfl, by intro w' h; have k0 := Blk.cell h.2.1 2; simp only [List.getElem?_cons_zero, List.getElem?_cons_succ] at k0; go_simp⟩) hHeld ?_
        show wpAnyH _ _ _ _ _ _ _ (Act.put _ (some 222) _) _
        simp only [Act.put, List.setIfInBounds_toArray, List.set_cons_zero, List.set_cons_succ]
        refine wpAnyH_take (i := 55) (v := .int .i64 (i : Int)) rfl (by kernel_rfl) (by kernel_rfl) (by kernel_rfl) (fun _ _ _ h => hpan _ _ _ _ _ h) (Or.inl ⟨by rfl, fun w _ => by rfl⟩) hHeld ?_
        show wpAnyH _ _ _ _ _ _ _ (Act.put _ (some 223) _) _
        simp only [Act.put, List.setIfInBounds_toArray, List.set_cons_zero, List.set_cons_succ]
        refine wpAnyH_take (i := 56) (v := .int .i64 ((i - 1 : Nat) : Int)) rfl (by kernel_rfl) (by kernel_rfl) (by kernel_rfl) (fun _ _ _ h => hpan _ _ _ _ _ h) (Or.inl ⟨by rfl, by intro w' h; go_simp; first | done | (simp [Hip.out, Hiv.out]) | (rw [Hip.out, Hiv.out])⟩) hHeld ?_
        show wpAnyH _ _ _ _ _ _ _ (Act.put _ (some 224) _) _
        simp only [Act.put, List.setIfInBounds_toArray, List.set_cons_zero, List.set_cons_succ]
        refine wpAnyH_take (i := 57) (v := .pointer (some ⟨la, i - 1, none⟩)) rfl (by kernel_rfl) (by kernel_rfl) (by kernel_rfl) (fun _ _ _ h => hpan _ _ _ _ _ h) (Or.inl ⟨by rfl, by intro w' h; have ij := Hij.out; go_simp⟩) hHeld ?_
        show wpAnyH _ _ _ _ _ _ _ (Act.put _ (some 225) _) _
        simp only [Act.put, List.setIfInBounds_toArray, List.set_cons_zero, List.set_cons_succ]
        refine wpAnyH_take (i := 58) (v := .int .u64 ap) rfl (by kernel_rfl) (by kernel_rfl) (by kernel_rfl) (fun _ _ _ h => hpan _ _ _ _ _ h) (Or.inl ⟨by rfl, by intro w' h; have q9 := h.2.2.2.2.2.2.2; go_simp⟩) hHeld ?_
        show wpAnyH _ _ _ _ _ _ _ (Act.put _ (some 226) _) _
        simp only [Act.put, List.setIfInBounds_toArray, List.set_cons_zero, List.set_cons_succ]
        refine wpAnyH_take (i := 59) (v := .bool false) rfl (by kernel_rfl) (by kernel_rfl) (by kernel_rfl) (fun _ _ _ h => hpan _ _ _ _ _ h) (Or.inl ⟨by rfl, by intro w' h; have lf := Hlf.out; go_simp⟩) hHeld ?_
        show wpAnyH _ _ _ _ _ _ _ (Act.put _ (some 227) _) _
        simp only [Act.put, List.setIfInBounds_toArray, List.set_cons_zero, List.set_cons_succ]
        refine wpAnyH_take (i := 60) (v := .bool false) rfl (by kernel_rfl) (by kernel_rfl) (by kernel_rfl) (fun _ _ _ h => hpan _ _ _ _ _ h) (Or.inl ⟨by rfl, by intro w hSw; first | rfl | go_simp⟩) hHeld ?_
        show wpAnyH _ _ _ _ _ _ _ (Act.put _ (some 228) _) _
        simp only [Act.put, List.setIfInBounds_toArray, List.set_cons_zero, List.set_cons_succ]
        refine wpAnyH_take (i := 61) (v := .bool false) rfl (by kernel_rfl) (by kernel_rfl) (by kernel_rfl) (fun _ _ _ h => hpan _ _ _ _ _ h) (Or.inl ⟨by rfl, by intro w hSw; first | rfl | go_simp⟩) hHeld ?_
        show wpAnyH _ _ _ _ _ _ _ (Act.put _ (some 229) _) _
        simp only [Act.put, List.setIfInBounds_toArray, List.set_cons_zero, List.set_cons_succ]
        refine wpAnyH_done (by kernel_rfl) ?_ _
        clear hHeld
        go_wp2
        go_roundw
        case rel => exact ⟨i + 1, by omega, by go_num, QJ0, EJ0, KJ0, RJ0, OJ0, CJ0, BJ0, NJ0, GJ0, AJ0, TJ0, MJ0⟩
        case measure => exact meas nl i hiN
end Go.Proofs.Ytnnimjaigciedaa.pathSound
